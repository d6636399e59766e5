import PyProof.Rows.All
import Wide.All
import OpenK.AllK
import Wide.FinOn
import Lean
import PyProof.EqAt
import PyProof.EqKinds
import PyProof.TupleCall
import PySem.Challenge.RW_undercells_k52_counts_even_where_plain
set_option autoImplicit true
set_option relaxedAutoImplicit true
set_option Elab.async false
set_option linter.all false
set_option maxRecDepth 100000
set_option maxHeartbeats 4000000
local macro_rules|`(command|abbrev $n:declId $s:optDeclSig $v:declVal)=>`(command|noncomputable def $n:declId $s:optDeclSig $v:declVal)|`(command|meta abbrev $n:declId $s:optDeclSig $v:declVal)=>`(command|@[reducible]noncomputable def $n:declId $s:optDeclSig $v:declVal)
local macro_rules|`(∅)=>`(by decide +kernel)
local macro_rules|`(⋯)=>`(by decide)
local macro_rules|`(tactic|dsimp[$l,*])=>`(tactic|simp only[$l,*])|`(tactic|dsimp[$l,*]$o:location)=>`(tactic|simp only[$l,*]$o:location)
local macro_rules(kind:=Lean.Parser.Term.structInst)|`({})=>`({cls:=.type "list",data:=.seq ([]:List PySem.Value).toArray})
set_option hygiene false
local macro_rules|`(tactic|room)=>`(tactic|obtain⟨ρ,S,τ,R,r,h⟩:=h9)
local macro_rules|`(tactic|z_go)=>`(tactic|obtain⟨ρ,S,a,b,R,va,vb,h⟩:=h9)
local macro_rules|`(tactic|x_go)=>`(tactic|intro pins s σ H Q I h)
local macro_rules|`(tactic|w_up)=>`(tactic|intro X hP hw hK hc i pins s σ H E I hf st hg)
local macro_rules|`(tactic|k_ne)=>`(tactic|intro pins s σ H xs us Q I r h)
local macro_rules|`(tactic|kt_k)=>`(tactic|obtain⟨xs,hn,h⟩:=je h)
local macro_rules|`(tactic|kd_p)=>`(tactic|intro pins s σ H x y v u Q I rx ry h)
local macro_rules|`(tactic|gn_on)=>`(tactic|obtain⟨f0,f1,f2,f3,f4,f5⟩:=hf it (by simp))
local macro_rules|`(tactic|gp_on)=>`(tactic|obtain⟨u,rfl,rx⟩:=vals1 r)
local macro_rules|`(tactic|kj_on)=>`(tactic|obtain⟨w,rfl,ρ,S,x,R,hv,h⟩:=Mr h0)
local macro_rules|`(tactic|kcf_m)=>`(tactic|have hfree:∀y∈scope.names,y.2=.free->∃c,X.env.cells.lookup y.1=some c:=λy hy e=>I.ok.has _ (S.fr y hy e))
local macro_rules|`(tactic|kcj_m)=>`(tactic|intro pins s σ H D I h)
local macro_rules|`(tactic|kpc_g)=>`(tactic|obtain⟨ρ,S,τ,R,r,h⟩:=h)
local macro_rules|`(tactic|kpf_c)=>`(tactic|refine aS (wpS_lift (fh ⟨rfl,?_⟩)))
local macro_rules|`(tactic|ksr_p)=>`(tactic|obtain⟨t,rfl⟩:=rx)
local macro_rules|`(tactic|kst_p)=>`(tactic|intro value slice pins s σ H x y v u Q I rx ry h hs)
local macro_rules|`(tactic|kln_w)=>`(tactic|refine aS (jA (kR hy) ?_))
set_option hygiene true
local macro_rules|`(())=>`(by lia)
@[reducible]def ae:=List Int
@[reducible]def ag:=List Nat
@[reducible]def am:=List PySem.Str
@[reducible]def ap:=List PySem.Value
@[reducible]def ar:=List PySem.Addr
@[reducible]def ba:=Option PySem.Value
@[reducible]def bb:=Option Int
@[reducible]def bd:=Option Bool
@[reducible]def bi:=Option Nat
@[reducible]def bj:=List (PySem.Addr×PySem.Obj)
def aG:=@List.getElem?_eq_getElem
def aH:=@PySem.wpAny_bind
def aI:=@List.getD_eq_getElem?_getD
def aJ:=@List.getElem?_eq_some_iff
def aK:=@List.length_map
def aL:=@PySem.wpAny_pure
def aM:=@if_neg
def aN:=@if_pos
def aO:=@PySem.Heap.get?_push_of_some
def aP:=@Nat.le_refl
def aQ:=@List.size_toArray
def aR:=@Option.some.inj
def aS:=@PyProof.Rows.wpS_bind
def aT:=@List.getElem?_map
def aU:=@List.length_append
def aV:=@List.mem_cons_of_mem
def aW:=@List.mem_cons_self
def aX:=@List.mem_append_right
def aY:=@List.mem_of_getElem?
def aZ:=@PyProof.Rows.wpS_pure
def a_:=@decide_eq_false
def bf:=@PySem.Heap.lt_size
def bg:=@decide_eq_true
def bh:=@List.mem_append
def bq:=@Bool.false_ne_true
def br:=@Option.map_eq_some_iff
def bu:=@PySem.Heap.get?_push_size
def bw:=@List.length_take
def bA:=@List.mem_map
def bB:=@List.mem_singleton
def bC:=@List.getElem?_eq_none
def bD:=@List.getElem?_append_left
def bE:=@Nat.ne_of_lt
def bF:=@Bool.false_eq_true
def bG:=@List.length_set
def bH:=@List.append_assoc
def bI:=@List.length_cons
def bJ:=@List.mem_cons
def bK:=@List.mem_of_mem_take
def bL:=@Nat.lt_of_lt_of_le
def bM:=@PySem.wpAny_newObj_type
def bN:=@beq_self_eq_true
def bO:=@List.mem_filter
def bP:=@List.mem_append_left
def bQ:=@List.drop_eq_getElem_cons
def bR:=@List.getElem?_range
def bS:=@Nat.le_trans
def bT:=@List.map_append
def bU:=@PySem.PassesOwn.never
def bV:=@List.map_map
def bW:=@List.getElem?_set_ne
def bX:=@List.map_cons
def bY:=@PySem.F.slot_dict_itemiterator_next
def bZ:=@List.pairwise_append
def b7:=@List.countP_cons
def b8:=@List.getElem?_set_self
def b9:=@Int.toNat_natCast
def b_:=@List.ext_getElem?
def cg:=@List.pairwise_cons
def cj:=@PyProof.Rows.slot_tuple_getitem
def cu:=@PyProof.Rows.wpS_forRange
def cA:=@List.append_nil
def cB:=@List.length_drop
def cC:=@Option.bind_some
def cD:=@List.nodup_append
def cE:=@if_false
def cF:=@Nat.zero_le
def cG:=@List.range_eq_range'
def cH:=@List.forall_mem_cons
def cI:=@PySem.W.mg_none_of
def cJ:=@Array.length_toList
def cK:=@List.take_append_drop
def cM:=@Option.bind_eq_some_iff
def cN:=@if_true
def cO:=@List.mem_range
def cP:=@Nat.lt_succ_self
def cQ:=@List.take_of_length_le
def cT:=@List.pairwise_iff_getElem
def cU:=@List.replicate_succ
def cV:=@PySem.sizeLine_eq
def cW:=@List.length_range
def cX:=@List.set_append_right
def cY:=@List.getElem?_take_of_lt
def cZ:=@List.Perm.refl
def c5:=@PySem.wpAny_call_entry
def c6:=@Bool.and_eq_true
def c7:=@List.take_succ_eq_append_getElem
def c8:=@of_decide_eq_true
def c9:=@List.length_reverse
def c_:=@List.filter_sublist
def dc:=@List.length_singleton
def dg:=@List.length_filter_le
def dh:=@PySem.wpAny_typeNameOfWhole_itemiter
def di:=@PySem.wpAny_holding
def dj:=@List.flatten_cons
def dm:=@List.length_eq_zero_iff
def dw:=@List.pairwise_singleton
def dz:=@List.find?_cons
def dB:=@PyProof.Rows.wpS_mono
def dD:=@PySem.Calls.callWith_builtin
def dF:=@Nat.zero_add
def dG:=@List.getElem_inj
def dH:=@List.range'_succ
def dI:=@List.prefix_refl
def dJ:=@List.getElem_mem
def dM:=@congrArg
def dN:=@List.getElem?_append_right
def dO:=@List.perm_ext_iff_of_nodup
def dP:=@PySem.wpAny_typeNameOf_itemiter
def dQ:=@PySem.wpAny_passesOwn
def dR:=@List.nodup_cons
def dS:=@PySem.wpAny_truthy_bool
def dU:=@PySem.wpAny_field
def dW:=@List.reverse_cons
def dX:=@List.pairwise_map
def dY:=@List.getElem?_of_mem
def dZ:=@List.mem_of_mem_drop
def d7:=@List.mem_iff_getElem
def d8:=@List.getElem?_set
def d9:=@Nat.lt_irrefl
def d_:=@PySem.wpAny_standAt
def eg:=@List.sum_cons
def eo:=@List.eraseIdxIfInBounds_toArray
def eB:=@PySem.mem_of_lookup
def eE:=@PySem.wpAny_callSpecial?_slot
def eF:=@PySem.Heap.size_push
def eG:=@List.all_eq_true
def eK:=@List.getElem_map
def eL:=@Ne.symm
def eN:=@PySem.wpAny_mono
def eO:=@PySem.wpAny_isOneOf_itemiter
def eS:=@PySem.wpAny_setField_rec
def eT:=@PyProof.Rows.wpS_modify
def eU:=@List.getElem?_drop
def eV:=@List.length_nil
def eW:=@List.countP_eq_length_filter
def eX:=@List.any_cons
def eY:=@Array.getElem?_toList
def eZ:=@List.getElem?_toArray
def e9:=@PyProof.Rows.callWith_type1
def e_:=@Nat.lt_succ_of_lt
def ff:=@List.flatMap_cons
def fh:=@PySem.wpAny_rule
def fj:=@List.take_zero
def fm:=@Int.le_refl
def fq:=@Nat.mul_le_mul_right
def fu:=@Nat.add_comm
def fB:=@Nat.mul_comm
def fC:=@Option.getD_some
def fD:=@List.lookup_cons
def fF:=@PySem.F.args_dict_itemiterator_next_1
def fG:=@Nat.sub_self
def fH:=@Array.getElem?_eq_getElem
def fJ:=@Classical.byContradiction
def fK:=@PySem.F.entry_dict_itemiterator_next
def fL:=@List.map_congr_left
def fM:=@Option.isSome_iff_exists
def fN:=@PySem.F.args_tuple_add_2
def fO:=@List.Perm.eq_of_pairwise
def fP:=@PySem.F.slot_dict_itemiterator_iter
def fQ:=@PySem.W.mg_of
def fR:=@List.Pairwise.imp_of_mem
def fS:=@PySem.F.slot_list_append
def fU:=@PySem.F.type_list_append
def fV:=@PySem.call_meets
def fW:=@List.prefix_append
def fX:=@List.getElem_range
def fY:=@decide_eq_true_iff
def fZ:=@Int.emod_lt_of_pos
def f6:=@List.getElem?_replicate
def f7:=@PySem.F.entry_tuple_add
def f9:=@PySem.F.plainAttrs_list
def f_:=@List.findIdx?_eq_some_iff_getElem
def gb:=@PySem.F.slot_tuple_add
def gc:=@List.pairwise_lt_range
def gf:=@PyProof.Rows.wpS_get
def gg:=@Bool.not_false
def gh:=@PySem.Heap.get?_push_ne
def gp:=@List.length_pos_of_mem
def gq:=@Nat.lt_of_succ_lt_succ
def gu:=@List.map_set
def gv:=@List.Pairwise.imp
def gz:=@List.eraseIdx_eq_take_drop_succ
def gA:=@List.eq_nil_or_concat
def gB:=@List.concat_eq_append
def gC:=@List.Pairwise.sublist
def gD:=@List.getElem?_reverse
def gE:=@List.map_reverse
def gF:=@PySem.Heap.size_update
def gG:=@List.filter_cons
def gH:=@List.any_eq_true
def gI:=@List.mem_flatMap
def gJ:=@Bool.not_true
def gK:=@Nat.add_assoc
def gM:=@Bool.true_and
def gO:=@PySem.Calls.evalArgs_plain
def gP:=@List.take_append_of_le_length
def gQ:=@PySem.wpAny_execs_nil
def gR:=@List.foldl_cons
def gS:=@PySem.F.slot_dict_items_iter
def gT:=@Nat.not_lt_zero
def gU:=@List.filter_map
def gW:=@Option.map_some
def gX:=@Int.emod_nonneg
def gY:=@List.filterMap_cons
def gZ:=@List.reverse_append
def g7:=@List.countP_eq_zero
def g8:=@PySem.codeAny_mono
def g9:=@PySem.wpAny_Call_Name_kw
def g_:=@List.filterMap_map
def h_:=@PySem.Heap.IsSliceOf.new
def ie:=@PySem.tupleKind_room_in1
def ig:=@List.nodup_nil
def ir:=@PySem.wpAny_fieldsOf
def iw:=@Nat.add_mul_mod_self_right
def iy:=@PySem.slot_list_getitem
def iA:=@PySem.wpAny_dictEntries
def iB:=@decide_eq_true_eq
def iC:=@Bool.eq_false_iff
def iD:=@PySem.Paired.length
def iE:=@PySem.evalPart_none
def iF:=@List.all_cons
def iG:=@List.zipIdx_cons
def iH:=@List.take_append
def iI:=@Nat.div_eq_of_lt
def iJ:=@Nat.mod_eq_of_lt
def iK:=@List.flatMap_map
def iL:=@PySem.wpAny_typeOf
def iM:=@Nat.lt_or_ge
def iN:=@List.of_mem_zip
def iO:=@List.forIn_cons
def iP:=@Int.le_antisymm
def iQ:=@Bool.or_eq_true
def iR:=@List.countP_nil
def iS:=@List.countP_map
def iT:=@Nat.min_eq_left
def iU:=@List.forIn_nil
def iV:=@List.drop_zero
def iW:=@Array.size_zip
def iX:=@List.take_succ
def iY:=@Nat.add_mul
def iZ:=@Nat.mul_le_mul
@[reducible]def af:=PySem.Value
@[reducible]def ah:=PySem.World
@[reducible]def aj:=PySem.Program
@[reducible]def ak:=PySem.Addr
@[reducible]def aq:=PySem.Heap
@[reducible]def au:=PySem.W.Frag
@[reducible]def aA:=PySem.Around
@[reducible]def aC:=PySem.Shared
@[reducible]def aE:=PySem.Expr
@[reducible]def aF:=PySem.Stmt
def anI{a b:Prop}(h:a)(k:b):a/\b:=⟨h,k⟩
open Array (size_map)
open List (all_map map_drop map_id' map_nil map_take)
open Nat (beq_eq ble_eq blt_eq le_of_lt ne_of_gt succ_pos)
open Option (getD_none isSome_map)
namespace L2
open PySem PySem.Spec PyProof.Rows
meta abbrev Key:=Sum Int Str
abbrev xZ:Key->af->Bool
 | .inl k,v=>Value.isInt k v
 | .inr x,v=>Value.isStrOf x v
abbrev Ut (w:ah):Key->Int
 | .inl k=>hashInt k
 | .inr x=>hashStr w x
def j4:∀{k:Key}{v:af},xZ k v=true->(∃i t,k=Sum.inl i/\v=Value.int i t)\/(∃x t,k=Sum.inr x/\v=Value.str x t)
 | .inl i,v,h=>by
  obtain⟨t,e⟩:=Value.isInt_shape (k:=i) (v:=v) h;exact .inl ⟨i,t,rfl,e⟩
 | .inr x,v,h=>by
  obtain⟨t,e⟩:=Value.isStrOf_shape (x:=x) (v:=v) h;exact .inr ⟨x,t,rfl,e⟩
def FF(i:Int)(t:Tok):xZ (.inl i) (.int i t)=true:=by simp[xZ,Value.isInt]
def F4(x:Str)(t:Tok):xZ (.inr x) (.str x t)=true:=by simp[xZ,Value.isStrOf]
def N8(a b:Int):decide ((Sum.inl a:Key)=Sum.inl b)=(a == b):=by
 by_cases e:a=b
 ·subst e;simp
 ·have h:¬(Sum.inl a:Key)=Sum.inl b:=λq=>e (Sum.inl.inj q);rw[a_ h];exact(beq_eq_false_iff_ne.mpr e).symm
def NY(a b:Str):decide ((Sum.inr a:Key)=Sum.inr b)=decide (a=b):=by
 by_cases e:a=b
 ·subst e;simp
 ·have h:¬(Sum.inr a:Key)=Sum.inr b:=λq=>e (Sum.inr.inj q);rw[a_ h,a_ e]
def Qk(a:Int)(b:Str):decide ((Sum.inl a:Key)=Sum.inr b)=false:=a_ (λq=>nomatch q)
def Qc(a:Str)(b:Int):decide ((Sum.inr a:Key)=Sum.inl b)=false:=a_ (λq=>nomatch q)
abbrev j9 (prog:aj)(w:ah):PySem.KeyKind prog w Key where
 is:=xZ
 hash:=Ut w
 inj:=λv a b ha hb=>by
  rcases j4 ha with⟨i,t,rfl,rfl⟩|⟨x,t,rfl,rfl⟩
  ·rcases j4 hb with⟨j,u,rfl,e⟩|⟨y,u,rfl,e⟩
   ·injection e with e1 _;rw[e1]
   ·exact nomatch e
  ·rcases j4 hb with⟨j,u,rfl,e⟩|⟨y,u,rfl,e⟩
   ·exact nomatch e
   ·injection e with e1 _;rw[e1]
 byValue:=λk v h=>by
  rcases j4 h with⟨i,t,rfl,rfl⟩|⟨x,t,rfl,rfl⟩<;>rfl
 pyHash:=λhv h=>by
  rcases j4 hv with⟨i,t,rfl,rfl⟩|⟨x,t,rfl,rfl⟩
  ·exact wpAny_pyHash_int h
  ·exact wpAny_pyHash_str h
 eqBool:=λhu hv h=>by
  rcases j4 hu with⟨i,t,rfl,rfl⟩|⟨x,t,rfl,rfl⟩
  ·rcases j4 hv with⟨j,u,rfl,rfl⟩|⟨y,u,rfl,rfl⟩
   ·rw[N8]at h;exact wpAny_eqBool_int h
   ·rw[Qk]at h;exact SeqAt.EqAt.int_str i t y u _ _ _ _ h
  ·rcases j4 hv with⟨j,u,rfl,rfl⟩|⟨y,u,rfl,rfl⟩
   ·rw[Qc]at h;exact SeqAt.EqAt.str_int x t j u _ _ _ _ h
   ·rw[NY]at h;exact wpAny_eqBool_str h
 «strs»:=λk x t v h=>by
  rcases j4 h with⟨i,u,rfl,e⟩|⟨y,u,rfl,e⟩
  ·exact nomatch e
  ·injection e with e1 _
   subst e1
   cases v<;>rfl
def zP(prog:aj)(w:ah)(i:Int)(t:Tok):(j9 prog w).is (.inl i) (.int i t)=true:=FF i t
def zN(prog:aj)(w:ah)(x:Str)(t:Tok):(j9 prog w).is (.inr x) (.str x t)=true:=F4 x t
inductive V where
 | non|bl (b:Bool)|int (i:Int)|str (x:Str)|byt (b:Array UInt8)|flt (b:UInt64)|ref (a:ak)|ty (n:String)
 deriving DecidableEq
abbrev RelV:V->af->Prop
 | .non,u=>u=Value.none
 | .bl b,u=>u=Value.bool b
 | .int i,u=>∃t,u=Value.int i t
 | .str x,u=>∃t,u=Value.str x t
 | .byt b,u=>∃t,u=Value.bytes b t
 | .flt b,u=>∃t,u=Value.float b t
 | .ref a,u=>u=Value.ref a
 | .ty n,u=>u=Value.type n
meta abbrev Vals:List V->ap->Prop:=Paired RelV
def Vals.length{xs:List V}{us:ap}(r:Vals xs us):xs.length=us.length:=iD r
theorem Vals.get:∀{xs:List V}{us:ap}{i:Nat}{x:V},Vals xs us->xs[i]?=some x->∃u,us[i]?=some u/\RelV x u
 | _,_,_,_,.nil,e=>by simp at e
 | _,_,0,_,.cons r _,e=>by simp at e;subst e;exact⟨_,rfl,r⟩
 | _,_,i+1,x,.cons _ t,e=>by
  obtain⟨u,h1,h2⟩:=Vals.get (i:=i) (x:=x) t (by simpa using e);exact⟨u,by simpa using h1,h2⟩
theorem Vals.set{x:V}(r:RelV x u):∀{xs:List V}{us:ap}(i:Nat),Vals xs us->Vals (xs.set i x) (us.set i u)
 | _,_,_,.nil=>.nil
 | _,_,0,.cons _ t=>.cons r t
 | _,_,i+1,.cons q t=>.cons q (Vals.set r i t)
theorem Vals.append:∀{xs ys:List V}{us ws:ap},Vals xs us->Vals ys ws->Vals (xs++ys) (us++ws)
 | _,_,_,_,.nil,s=>s
 | _,_,_,_,.cons r t,s=>.cons r (Vals.append t s)
theorem Vals.take:∀{xs:List V}{us:ap}(n:Nat),Vals xs us->Vals (xs.take n) (us.take n)
 | _,_,0,_=>.nil
 | _,_,_+1,.nil=>.nil
 | _,_,n+1,.cons r t=>.cons r (Vals.take n t)
theorem Vals.drop:∀{xs:List V}{us:ap}(n:Nat),Vals xs us->Vals (xs.drop n) (us.drop n)
 | _,_,0,r=>r
 | _,_,_+1,.nil=>.nil
 | _,_,n+1,.cons _ t=>Vals.drop n t
abbrev xx:Option V->ba->Prop
 | some v,some u=>RelV v u
 | none,none=>True
 | _,_=>False
abbrev KV {κ:Type}:List (κ×V)->List (κ×af)->Prop:=Paired λ(p:κ×V) (q:κ×af)=>p.1=q.1/\RelV p.2 q.2
abbrev kV:Key->V
 | .inl i=>.int i
 | .inr x=>.str x
inductive HO where
 | lst (xs:List V)
 | tup (xs:List V)
 | dK (kvs:List (Key×V))|dT (kvs:List (List Key×V))
 | set (S:Int->Bool) (n:Nat)
 | ins (C dx:ak) (fs:List (Str×V))
 | own (x:ak)
 | xd (fs:List (Str×V))
 | met (f x:ak)
 | rng (lo hi:Int)
 | frz (o:Obj) (u:HO)
 | tbl (ps:Array af)
 | ext (φ:aq->Prop)
meta abbrev Hp:=ak->Option HO
abbrev upd (H:Hp)(a:ak)(o:HO):Hp:=λb=>if b=a then some o else H b
def jJ{H:Hp}{a:ak}:upd H a o a=some o:=by unfold upd;rw[aN rfl]
def jl{H:Hp}{a:ak}(h:b≠a):upd H a o b=H b:=by unfold upd;rw[aM h]
def IG{H:Hp}{a:ak}(h:H a=some o)(h':H b=some u)(d:o≠u):a≠b:=by
 intro e;subst e;rw[h]at h';exact d (aR h')
def ju{H:Hp}{a:ak}(h:H a=some o)(h':H b=none):a≠b:=by
 intro e;subst e;rw[h]at h';cases h'
abbrev mJ (h:aq)(a:ak)(items:Array af):Prop:=∃o,h.get? a=some o/\o.cls=.type "tuple" /\ o.dict=none/\∃n,o.data=.seq items n
def mJ.tup{a:ak}:mJ h a items->IsTup h a items:=λ⟨o,e,c,_,n,d⟩=>⟨o,e,c,n,d⟩
def mJ.new(h:aq)(items:Array af):mJ (h.push { cls:=.type "tuple",data:=.seq items }) h.objs.size items:=⟨_,bu _ rfl,rfl,rfl,_,rfl⟩
def mJ.lt{h:aq}{a:ak}(x:mJ h a items):a<h.objs.size:=let⟨_,ho,_⟩:=x;bf ho
section
variable (P:aj) (w:ah)
abbrev kD (H:Hp)(h:aq)(a:ak):HO->Prop
 | .lst xs=>xs.length<=sizeLine/\∃(its:ap) (n:Nat),Vals xs its/\h.get? a=some { cls:=.type "list",data:=.seq its.toArray n }
 | .tup xs=>xs.length<=sizeLine/\∃its:ap,Vals xs its/\mJ h a its.toArray
 | .dK kvs=>kvs.length<=sizeLine/\(a == sysModules)=false/\∃vs,KV kvs vs/\h.DictOf (j9 P w) a vs
 | .dT kvs=>kvs.length<=sizeLine/\(a == sysModules)=false/\∃xs:List (List Key×ak×af),
   Paired (λ(p:List Key×V) (q:List Key×ak×af)=>p.1=q.1/\H q.2.1=some (.tup (p.1.map kV))/\RelV p.2 q.2.2) kvs xs /\
   ∃o es ep,h.get? a=some o/\o.ExactDict/\o.data=.dict es ep/\es.toList=xs.map (entryOfKey (tupleKind (j9 P w)))/\(xs.map (·.1)).Nodup
 | .set S n=>h.SetOf (intKind P w) a S n
 | .ins C dx fs=>H dx=some (.own a)/\fs.length<=1000/\dx≠a/\h.get? a=some (PySem.W.instObj C dx) /\
   ∃mA,h.Ns1 dx mA/\(∀f,xx (fs.lookup f) (mA f))/\PySem.Within mA (fs.map (·.1))
 | .own _=>∃o,h.get? a=some o
 | .xd fs=>∃mA,h.Ns1 a mA/\∀f,xx (fs.lookup f) (mA f)
 | .rng lo hi=>∃t u v,h.get? a=some { cls:=.type "range",data:=.fields #[.int lo t,.int hi u,.int 1 v]}
 | .frz o u=>h.get? a=some o/\kD H h a u
 | .tbl ps=>h.get? a=some { cls:=.none,data:=.fields ps }
 | .met f x=>h.get? a=some (PySem.W.methodObj (.ref f) (.ref x))
 | .ext φ=>φ h/\(∃o,h.get? a=some o)/\∀h1 h2:aq,φ h1->(∀o,h1.get? a=some o->h2.get? a=some o)->φ h2
abbrev sO (H:Hp)(h:aq):Prop:=∀a o,H a=some o->kD P w H h a o
end
section
variable {P:aj}{w:ah}{H H':Hp}{h h':aq}{a:ak}{o:HO}
def kD.lt(x:kD P w H h a o):a<h.objs.size:=by
 cases o with
 | lst xs=>obtain⟨_,_,_,_,e⟩:=x;exact bf e
 | tup xs=>obtain⟨_,_,_,p⟩:=x;exact mJ.lt p
 | dK kvs=>obtain⟨_,_,_,_,o,_,_,e,_⟩:=x;exact bf e
 | dT kvs=>obtain⟨_,_,_,_,o,_,_,e,_⟩:=x;exact bf e
 | set S n=>obtain⟨o,_,_,_,e,_⟩:=x;exact bf e
 | ins C dx fs=>obtain⟨_,_,_,e,_⟩:=x;exact bf e
 | own y=>obtain⟨_,e⟩:=x;exact bf e
 | xd fs=>obtain⟨_,⟨_,_,_,e,_⟩,_⟩:=x;exact bf e
 | rng lo hi=>obtain⟨_,_,_,e⟩:=x;exact bf e
 | frz ob u=>obtain⟨e,_⟩:=x;exact bf e
 | tbl ps=>exact bf (show h.get? a=some _ from x)
 | met f y=>exact bf (show h.get? a=some _ from x)
 | ext φ=>obtain⟨_,⟨_,e⟩,_⟩:=x;exact bf e
theorem Paired.O1{α β:Type}{F G:α->β->Prop}:∀{l₁:List α}{l₂:List β},Paired F l₁ l₂->(∀a b,F a b->G a b)->Paired G l₁ l₂
 | _,_,.nil,_=>.nil
 | _,_,.cons r t,f=>.cons (f _ _ r) (Paired.O1 t f)
def kD.stay(x:kD P w H h a o)(k:∀b u,(b=a\/H b=some (.own a))->h.get? b=some u->h'.get? b=some u)
  (ho:∀b,H b=some (.own a)->H' b=some (.own a)) (ht:∀b xs,H b=some (.tup xs)->H' b=some (.tup xs)):kD P w H' h' a o:=by
 induction o with
 | lst xs=>obtain⟨z,its,n,r,e⟩:=x;exact⟨z,its,n,r,k _ _ (.inl rfl) e⟩
 | tup xs=>obtain⟨z,its,r,ob,e,c⟩:=x;exact⟨z,its,r,ob,k _ _ (.inl rfl) e,c⟩
 | dK kvs=>obtain⟨z,y,vs,r,ob,es,ep,e,c⟩:=x;exact⟨z,y,vs,r,ob,es,ep,k _ _ (.inl rfl) e,c⟩
 | dT kvs=>
  obtain⟨z,y,xs,r,ob,es,ep,e,c⟩:=x;exact⟨z,y,xs,Paired.O1 r λp q z=>⟨z.1,ht _ _ z.2.1,z.2.2⟩,ob,es,ep,k _ _ (.inl rfl) e,c⟩
 | set S n=>obtain⟨ob,es,ep,t,e,c⟩:=x;exact⟨ob,es,ep,t,k _ _ (.inl rfl) e,c⟩
 | ins C dx fs=>
  obtain⟨d,z,ne,e,mA,⟨od,es,ep,e2,c⟩,r⟩:=x;exact⟨ho _ d,z,ne,k _ _ (.inl rfl) e,mA,⟨od,es,ep,k _ _ (.inr d) e2,c⟩,r⟩
 | own y=>obtain⟨ob,e⟩:=x;exact⟨ob,k _ _ (.inl rfl) e⟩
 | xd fs=>obtain⟨mA,⟨od,es,ep,e,c⟩,r⟩:=x;exact⟨mA,⟨od,es,ep,k _ _ (.inl rfl) e,c⟩,r⟩
 | rng lo hi=>obtain⟨t,u,v,e⟩:=x;exact⟨t,u,v,k _ _ (.inl rfl) e⟩
 | frz ob u ih=>obtain⟨e,q⟩:=x;exact⟨k _ _ (.inl rfl) e,ih q⟩
 | tbl ps=>
  have e:h.get? a=some { cls:=.none,data:=.fields ps }:=x
  skip
  exact k a _ (.inl rfl) e
 | met f y=>
  have e:h.get? a=some (PySem.W.methodObj (.ref f) (.ref y)):=x
  skip
  exact k a _ (.inl rfl) e
 | ext φ=>obtain⟨p,⟨o,e⟩,st⟩:=x;exact⟨st _ _ p λo q=>k _ _ (.inl rfl) q,⟨o,k _ _ (.inl rfl) e⟩,st⟩
def sO.lt(x:sO P w H h)(e:H a=some o):a<h.objs.size:=(x a o e).lt
def sO.fresh(x:sO P w H h)(e:h.objs.size<=a):H a=none:=by
 cases q:H a with
 | none=>rfl
 | some u=>exact absurd (bL (x.lt q) e) (d9 _)
def sO.kept(x:sO P w H h)(k:∀b u,h.get? b=some u->h'.get? b=some u):sO P w H h':=λa o e=>
 (x a o e).stay (λb u _ q=>k b u q) (λ_ q=>q) λ_ _ q=>q
def sO.laid(x:sO P w H h)(k:∀b u,h.get? b=some u->h'.get? b=some u)(hp:h.objs.size<=a)(new:kD P w (upd H a o) h' a o):sO P w (upd H a o) h':=λb u e=>by
 have hn:=x.fresh hp;by_cases hb:b=a
 ·subst hb;rw[jJ]at e;cases e;exact new
 ·rw[jl hb]at e;exact(x b u e).stay (λc v _ q=>k c v q) (λc q=>by rw[jl (ju q hn)];exact q) λc xs q=>by rw[jl (ju q hn)];exact q
end
abbrev Rd (H:Hp)(a:ak)(u:HO):Prop:=H a=some u\/∃o,H a=some (.frz o u)
def Rd.ok{P:aj}{w:ah}{H:Hp}{a:ak}(r:Rd H a u)(x:sO P w H h):kD P w H h a u:=by
 rcases r with r|⟨o,r⟩
 ·exact x a u r
 ·obtain⟨_,q⟩:=x a _ r;exact q
abbrev Q3:Option HO->Prop
 | some (.lst _)=>True
 | some (.dK _)=>True
 | some (.dT _)=>True
 | some (.set _ _)=>True
 | some (.ins _ _ _)=>True
 | some (.ext _)=>True
 | _=>False
section
variable {P:aj}{w:ah}{H:Hp}{h h':aq}{x e:ak}{o':HO}
def sO.write(ok:sO P w H h)(mu:Q3 (H x))(he:e=x\/H e=some (.own x))(k:∀b u,b≠e->h.get? b=some u->h'.get? b=some u)(heo:∃u,h'.get? e=some u)
  (new:kD P w (upd H x o') h' x o'):sO P w (upd H x o') h':=λb u q=>by
 have nown:∀c y,H c=some (.own y)->c≠x:=λc y r z=>by subst z;rw[r]at mu;exact mu
 have ntup:∀c xs,H c=some (.tup xs)->c≠x:=λc xs r z=>by subst z;rw[r]at mu;exact mu
 by_cases hb:b=x
 ·subst hb;rw[jJ]at q;cases q;exact new
 ·rw[jl hb]at q;by_cases hbe:b=e
  ·have q':H b=some (.own x):=by
    rcases he with z|z
    ·exact absurd (hbe.trans z) hb
    ·rw[hbe];exact z
   rw[q]at q';cases q';obtain⟨v,hv⟩:=heo;exact⟨v,by rw[hbe];exact hv⟩
  ·refine(ok b u q).stay (λc v hc r=>k c v ?_ r) (λc r=>by rw[jl (nown c b r)];exact r) λc xs r=>by rw[jl (ntup c xs r)];exact r
   rcases hc with rfl|hc
   ·exact hbe
   ·rintro rfl
    rcases he with z|z
    ·exact nown c b hc z
    ·rw[hc]at z;cases z;exact hb rfl
end
structure Un (fs ex:ar)(H H':Hp)(h h':aq):Prop where
 keep:∀b o,h.get? b=some o->H b=none->b∉fs->b∉ex->h'.get? b=some o
 slot:∀b o,h.get? b=some o->H b=none->b∈fs->b∉ex->∃sl,h'.get? b=some { o with slots:=sl }
 free:∀b o,h.get? b=some o->H b=none->b∉ex->H' b=none
 there:∀b o,h.get? b=some o->b∉ex->∃o',h'.get? b=some o'
 tups:∀b xs,H b=some (.tup xs)->H' b=some (.tup xs)
 frzs:∀b o u,H b=some (.frz o u)->H' b=some (.frz o u)
 tbls:∀b ps,H b=some (.tbl ps)->∃more,H' b=some (.tbl (ps++more))
section
variable {fs ex:ar}{H H1:Hp}{h h1 h':aq}{a x e:ak}{o:HO}
def Un.any(u:Un fs ex H H1 h h1){ob:Obj}(q:h.get? b=some ob)(n:H b=none)(hx:b∉ex):∃sl,h1.get? b=some { ob with slots:=sl }:=by
 by_cases hb:b∈fs
 ·exact u.slot b ob q n hb hx
 ·exact⟨ob.slots,u.keep b ob q n hb hx⟩
def Un.kept(k:∀b u,h.get? b=some u->h'.get? b=some u):Un fs ex H H h h':=
 ⟨λb ob q _ _ _=>k b ob q,λb ob q _ _ _=>⟨ob.slots,k b ob q⟩,λ_ _ _ n _=>n,λb ob q _=>⟨ob,k b ob q⟩,λ_ _ q=>q,λ_ _ _ q=>q,λ_ ps q=>⟨#[],by rw[q];simp⟩⟩
def Un.refl:Un fs ex H H h h:=Un.kept λ_ _ q=>q
def Un.laid(k:∀b u,h.get? b=some u->h'.get? b=some u)(hp:h.objs.size<=a)(hn:H a=none):Un fs ex H (upd H a o) h h' where
 keep:=λb u q _ _ _=>k b u q
 slot:=λb u q _ _ _=>⟨u.slots,k b u q⟩
 free:=λb u q n _=>by rw[jl (bE (bL (bf q) hp))];exact n
 there:=λb u q _=>⟨u,k b u q⟩
 tups:=λb xs q=>by rw[jl (ju q hn)];exact q
 frzs:=λb u xs q=>by rw[jl (ju q hn)];exact q
 tbls:=λb ps q=>⟨#[],by rw[jl (ju q hn),q];simp⟩
def Un.write(mu:Q3 (H x))(he:e=x\/H e=some (.own x))(k:∀b u,b≠e->h.get? b=some u->h'.get? b=some u)(heo:∃u,h'.get? e=some u):Un fs ex H (upd H x o) h h':=by
 have hx:∀b,H b=none->b≠x:=λb n z=>by subst z;rw[n]at mu;exact mu
 have hb:∀b,H b=none->b≠e:=λb n z=>by
  subst z
  rcases he with r|r
  ·exact hx b n r
  ·rw[n]at r;cases r
 have hm:∀b u,H b=some u->¬Q3 (some u)->b≠x:=λb u q nm z=>by subst z;rw[q]at mu;exact nm mu
 refine⟨λb u q n _ _=>k b u (hb b n) q,λb u q n _ _=>⟨u.slots,k b u (hb b n) q⟩,λb u q n _=>by rw[jl (hx b n)];exact n,λb u q _=>?_,
  λb xs q=>by rw[jl (hm b _ q λz=>z)];exact q,λb u xs q=>by rw[jl (hm b _ q λz=>z)];exact q,λb ps q=>⟨#[],by rw[jl (hm b _ q λz=>z),q];simp⟩⟩
 by_cases hbe:b=e
 ·subst hbe;exact heo
 ·exact⟨u,k b u hbe q⟩
end
abbrev Tn (h:aq)(H:Hp):ar:=(List.range h.objs.size).filter λa=>(H a).isSome
abbrev yw (h:aq)(H:Hp):aq:=PySem.W.hideAll h (Tn h H)
def F5(h:aq)(H:Hp):(yw h H).objs.size=h.objs.size:=PySem.W.hideAll_size _ _
def Gu{h:aq}{H:Hp}(e:h.get? b=some o)(n:H b=none):(yw h H).get? b=some o:=
 PySem.W.hideAll_get _ e λhm=>by
  have q:(H b).isSome=true:=(bO.mp hm).2;rw[n]at q;simp at q
def L0{h:aq}{H:Hp}(e:(yw h H).get? b=some o):h.get? b=some o/\H b=none:=by
 have e':h.get? b=some o:=PySem.W.of_hideAll (Tn h H) e;refine⟨e',?_⟩
 cases q:H b with
 | none=>rfl
 | some x=>
  have hm:b∈Tn h H:=bO.mpr ⟨cO.mpr (bf e'),by simp[q]⟩;have z:(yw h H).get? b=none:=PySem.W.hideAll_none (Tn h H) hm;rw[z]at e;cases e
abbrev Lu (g h:aq)(L:ak):bj:=(List.range h.objs.size).filterMap λa=>if a=L\/(g.get? a).isSome=true then none else(h.get? a).map λo=>(a,o)
abbrev rest (g h:aq)(L d:ak):bj:=(Lu g h L).filter λp=>decide (p.1≠d)
structure Mod (K:au)(mg:Str->ba)(base:aq):Prop where
 kin:K.In base
 glob:base.Ns mainGlobals mg
 blt:∃mb,base.Ns builtinsNs mb/\∀x:Str,x ≠ "__name__" -> mb x=bootBuiltins x
 nolimit:base.NoLimit
structure Cx where
 prog:aj
 w:ah
 K:au
 mg:Str->ba
 base:aq
 A:aA
 N:am
 s₀:aC
 H₀:Hp
 env:Env
 outer:List Env
 stack:List Env
 ex:ar
 fn:Str->Bool
 calm:Bool
 pn:bj
 xe:af->aC->Prop
abbrev frs (l:List Env):ar:=l.filterMap (·.frame)
meta abbrev Cx.fs (X:Cx):ar:=frs X.outer
abbrev QK (sc:Scope)(x:Str):Prop:=sc.names.lookup x=some .local\/sc.names.lookup x=some .cell\/sc.names.lookup x=some .free
abbrev Loc (sc:Scope)(x:Str):Prop:=sc.names.lookup x=some .local\/sc.names.lookup x=some .cell
abbrev Look (env:Env)(h:aq)(m:Str->ba)(x:Str)(u:af):Prop:=
 (env.kindOf x=some .local/\m x=some u)\/((env.kindOf x=some .cell\/env.kindOf x=some .free)/\∃c,env.cells.lookup x=some c/\h.IsCell c (some u))
structure Cx.Ok (X:Cx):Prop where
 mod:Mod X.K X.mg X.base
 kind:X.env.scope.kind=.function
 glob:X.env.globals=mainGlobals
 blt:X.env.builtins=builtinsNs
 above:X.s₀.heap.objs.size<=X.env.locals
 inj:∀x y c,X.env.cells.lookup x=some c->X.env.cells.lookup y=some c->x=y
 has:∀x,(X.env.kindOf x=some .cell\/X.env.kindOf x=some .free)->∃c,X.env.cells.lookup x=some c
 cab:∀x c,X.fn x=true->X.env.cells.lookup x=some c->X.s₀.heap.objs.size<=c
 hd:X.calm=true->X.A.handled=none
 frames:X.A.frames=some X.stack
 stk:X.stack=X.outer\/(X.stack=X.env::X.outer/\X.env.frame=some X.env.locals)
 exf:∀b∈X.ex,b≠X.env.locals/\∀x c,X.env.cells.lookup x=some c->c≠b
 bs:∀b o,X.base.get? b=some o->X.s₀.heap.get? b=some o/\X.H₀ b=none
 bsz:X.base.objs.size<=X.s₀.heap.objs.size
 noex:∀b o,X.base.get? b=some o->b∉X.ex
 exfs:∀b∈X.ex,b∉X.fs
 xh:X.s₀.heap.FunFrames X.base X.outer
 frf:∀b∈X.fs,X.H₀ b=none
structure Inv (X:Cx)(pins:bj)(σ:List (Option V))(H:Hp)(s:aC):Prop where
 ok:X.Ok
 os:s.os=X.s₀.os
 bare:AllBare s.gens
 base:Un X.fs X.ex X.H₀ H X.s₀.heap s.heap
 loc:∃m,s.heap.Ns X.env.locals m/\∀(i:Nat) (x:Str) (v:V),X.N[i]?=some x->σ[i]?=some (some v)->QK X.env.scope x->∃u,RelV v u/\Look X.env s.heap m x u
 cell:∀x c,X.env.cells.lookup x=some c->∃v,s.heap.IsCell c v
 free:H X.env.locals=none
 freeC:∀x c,X.env.cells.lookup x=some c->H c=none
 pin:∀p∈X.pn++pins,s.heap.get? p.1=some p.2/\H p.1=none/\p.1≠X.env.locals/\p.1∉X.fs/\∀v,p.2.data≠.cell v
 hok:sO X.prog X.w H s.heap
 len:σ.length=X.N.length
section
variable {X:Cx}{pins:bj}{σ:List (Option V)}{H H':Hp}{s:aC}{h':aq}
def Cx.Ok.TX(ok:X.Ok)(e:X.base.get? b=some o):b∉X.fs:=λhb=>by
 have:=(ok.xh.mem hb).1;rw[e]at this;cases this
def Inv.bs(I:Inv X pins σ H s):∀b o,X.base.get? b=some o->s.heap.get? b=some o/\H b=none:=λb o e=>
 ⟨I.base.keep b o (I.ok.bs b o e).1 (I.ok.bs b o e).2 (I.ok.TX e) (I.ok.noex b o e),I.base.free b o (I.ok.bs b o e).1 (I.ok.bs b o e).2 (I.ok.noex b o e)⟩
def Inv.bk(I:Inv X pins σ H s):∀b o,X.base.get? b=some o->s.heap.get? b=some o:=λb o e=>(I.bs b o e).1
def Inv.mod(I:Inv X pins σ H s):Mod X.K X.mg X.base:=I.ok.mod
def Inv.PM(I:Inv X pins σ H s):X.K.In s.heap:=I.ok.mod.kin.keeps I.bk
def Inv.lt(I:Inv X pins σ H s):X.env.locals<s.heap.objs.size:=let⟨_,hn,_⟩:=I.loc;hn.lt
def Inv.sz(I:Inv X pins σ H s):X.s₀.heap.objs.size<=s.heap.objs.size:=bS I.ok.above (le_of_lt I.lt)
def Inv.Ug(I:Inv X pins σ H s){a:ak}(h:s.heap.objs.size<=a):a∉X.fs:=λhb=>by
 obtain⟨_,o,ho,_⟩:=I.ok.xh.mem hb;exact absurd (bL (bf ho) (bS I.sz h)) (d9 _)
def Inv.P_(I:Inv X pins σ H s):∀x c,X.env.cells.lookup x=some c->c≠X.env.locals:=λx c e z=>by
 obtain⟨v,o,ho,hd⟩:=I.cell x c e;obtain⟨m,⟨o',es,ep,ho',hd',_⟩,_⟩:=I.loc;rw[z,ho']at ho;cases ho;rw[hd']at hd;cases hd
def Inv.xh(I:Inv X pins σ H s):s.heap.FunFrames X.base X.outer:=by
 have all:∀(l:List Env),(∀b∈frs l,b∈X.fs)->X.s₀.heap.FunFrames X.base l->s.heap.FunFrames X.base l:=by
  intro l
  induction l with
  | nil=>intro _ _;trivial
  | cons env r ih=>
   intro hs hl;obtain⟨hk,⟨L,o,hf,hn,ho,hd⟩,hr⟩:=hl;have hL:L∈X.fs:=hs L (by unfold frs;rw[gY,hf];exact aW);obtain⟨sl,e⟩:=I.base.slot L o ho (I.ok.frf L hL) hL λz=>I.ok.exfs L z hL;exact⟨hk,⟨L,_,hf,hn,e,hd⟩,ih (λb hb=>hs b (by unfold frs;rw[gY,hf];exact aV _ hb)) hr⟩
 exact all X.outer (λ_ hb=>hb) I.ok.xh
def Inv.stack(I:Inv X pins σ H s):s.heap.FunFrames X.base X.stack:=by
 rcases I.ok.stk with e|⟨e,hf⟩
 ·rw[e];exact I.xh
 ·rw[e];obtain⟨m,hn,_⟩:=I.loc;refine .cons (by rw[I.ok.kind];decide) hf hn ?_ I.xh;exact Heap.get?_none_of_le (bS I.ok.bsz I.ok.above)
def Inv.BS(I:Inv X pins σ H s):∀b∈frs X.stack,b∈X.env.locals::X.fs:=λb hb=>by
 rcases I.ok.stk with e|⟨e,hf⟩
 ·rw[e]at hb;exact aV _ hb
 ·rw[e]at hb;unfold frs at hb;rw[gY,hf]at hb;exact hb
def Inv.C1(I:Inv X pins σ H s):∀b∈frs X.stack,H b=none:=λb hb=>by
 rcases bJ.mp (I.BS b hb)with e|hb
 ·rw[e];exact I.free
 ·obtain⟨_,o,ho,_⟩:=I.ok.xh.mem hb;exact I.base.free b o ho (I.ok.frf b hb) λz=>I.ok.exfs b z hb
def Inv.step{g':Array GenState}{t':Nat}{d':Drawn}{ch:ar}(I:Inv X pins σ H s)
  (hch:∀b∈ch,(b∈X.ex\/X.s₀.heap.objs.size<=b)/\b≠X.env.locals/\(∀x c,X.env.cells.lookup x=some c->c≠b)/\∀p∈X.pn++pins,p.1≠b)
  (keep:∀b o,b≠X.env.locals->b∉X.fs->b∉ch->s.heap.get? b=some o->H b=none->h'.get? b=some o)
  (slot:∀b o,b≠X.env.locals->b∈X.fs->b∉ch->s.heap.get? b=some o->H b=none->∃sl,h'.get? b=some { o with slots:=sl }) (free:∀b o,b∉ch->s.heap.get? b=some o->H b=none->H' b=none)
  (there:∀b o,b∉ch->s.heap.get? b=some o->∃o',h'.get? b=some o')
  (tups:∀b xs,H b=some (.tup xs)->H' b=some (.tup xs)) (frzs:∀b o u,H b=some (.frz o u)->H' b=some (.frz o u)) (tbls:∀b ps,H b=some (.tbl ps)->∃more,H' b=some (.tbl (ps++more)))
  (ns:∀m,s.heap.Ns X.env.locals m->h'.Ns X.env.locals m) (hok:sO X.prog X.w H' h') (hg:AllBare g') :
  Inv X pins σ H' { s with heap:=h',gens:=g',drawn:=d',toks:=t' }:=by
 have neL:∀b o,X.s₀.heap.get? b=some o->b≠X.env.locals:=λb o e=>bE (bL (bf e) I.ok.above);have neC:∀b o,X.s₀.heap.get? b=some o->b∉X.ex->b∉ch:=λb o e hx hb=>by
  rcases(hch b hb).1 with z|z
  ·exact hx z
  ·exact absurd (bL (bf e) z) (d9 _)
 have cellK:∀x c,X.env.cells.lookup x=some c->∀v,s.heap.IsCell c v->h'.IsCell c v:=λx c e v ⟨o,ho,hd⟩=>by
  have nch:c∉ch:=λz=>(hch c z).2.2.1 x c e rfl;by_cases hc:c∈X.fs
  ·obtain⟨sl,q⟩:=slot c o (I.P_ x c e) hc nch ho (I.freeC x c e);exact⟨_,q,hd⟩
  ·exact⟨o,keep c o (I.P_ x c e) hc nch ho (I.freeC x c e),hd⟩
 refine⟨I.ok,I.os,hg,⟨λb o e n hb hx=>?_,λb o e n hb hx=>?_,λb o e n hx=>?_,λb o e hx=>?_,λb xs e=>tups b xs (I.base.tups b xs e),λb o xs e=>frzs b o xs (I.base.frzs b o xs e),λb ps e=>?_⟩,?_,λx c e=>?_,?_,λx c e=>?_,λp hp=>?_,hok,I.len⟩
 ·exact keep b o (neL b o e) hb (neC b o e hx) (I.base.keep b o e n hb hx) (I.base.free b o e n hx)
 ·obtain⟨sl,e1⟩:=I.base.slot b o e n hb hx;obtain⟨sl',e2⟩:=slot b _ (neL b o e) hb (neC b o e hx) e1 (I.base.free b o e n hx);exact⟨sl',e2⟩
 ·obtain⟨o',e1⟩:=I.base.there b o e hx;exact free b o' (neC b o e hx) e1 (I.base.free b o e n hx)
 ·obtain⟨o',e1⟩:=I.base.there b o e hx;exact there b o' (neC b o e hx) e1
 ·obtain⟨m1,e1⟩:=I.base.tbls b ps e;obtain⟨m2,e2⟩:=tbls b _ e1;exact⟨m1++m2,by rw[e2,Array.append_assoc]⟩
 ·obtain⟨m,hn,hl⟩:=I.loc;refine⟨m,ns m hn,λi x v e1 e2 e3=>?_⟩;obtain⟨u,r,l⟩:=hl i x v e1 e2 e3;refine⟨u,r,?_⟩
  rcases l with l|⟨k,c,e,z⟩
  ·exact .inl l
  ·exact .inr ⟨k,c,e,cellK x c e _ z⟩
 ·obtain⟨v,z⟩:=I.cell x c e;exact⟨v,cellK x c e v z⟩
 ·obtain⟨m,⟨o,_,_,ho,_⟩,_⟩:=I.loc;exact free _ o (λz=>(hch _ z).2.1 rfl) ho I.free
 ·obtain⟨v,o,ho,hd⟩:=I.cell x c e;exact free c o (λz=>(hch c z).2.2.1 x c e rfl) ho (I.freeC x c e)
 ·obtain⟨e,n,ne,nf,d⟩:=I.pin p hp;have nch:p.1∉ch:=λz=>(hch p.1 z).2.2.2 p hp rfl;exact⟨keep p.1 p.2 ne nf nch e n,free p.1 p.2 nch e n,ne,nf,d⟩
def Inv.un{t':Nat}(I:Inv X pins σ H s)(u:Un X.fs [] H H' s.heap h')(hok:sO X.prog X.w H' h'):Inv X pins σ H' { s with heap:=h',toks:=t' }:=by
 obtain⟨m,⟨o,es,ep,ho,r⟩,_⟩:=id I.loc;obtain⟨sl,hL⟩:=u.any ho I.free (by simp);exact I.step (g':=s.gens) (d':=s.drawn) (ch:=[]) (nofun) (λb o _ hb _ e n=>u.keep b o e n hb (by simp)) (λb o _ hb _ e n=>u.slot b o e n hb (by simp)) (λb o _ e n=>u.free b o e n (by simp)) (λb o _ e=>u.there b o e (by simp)) u.tups u.frzs u.tbls (λm' hm=>by
  obtain⟨o',es',ep',ho',r'⟩:=hm;rw[ho]at ho';cases ho';exact⟨_,es',ep',hL,r'⟩) hok I.bare
def Inv.call{g':Array GenState}{t':Nat}{d':Drawn}{ch:ar}(I:Inv X pins σ H s)(u:Un (frs X.stack) ch H H' s.heap h')(hok:sO X.prog X.w H' h')(hg:AllBare g')
  (hch:∀b∈ch,(b∈X.ex\/X.s₀.heap.objs.size<=b)/\b≠X.env.locals/\(∀x c,X.env.cells.lookup x=some c->c≠b)/\∀p∈X.pn++pins,p.1≠b) :
  Inv X pins σ H' { s with heap:=h',gens:=g',drawn:=d',toks:=t' }:=by
 obtain⟨m,⟨o,es,ep,ho,r⟩,_⟩:=id I.loc;obtain⟨sl,hL⟩:=u.any ho I.free λz=>(hch _ z).2.1 rfl;exact I.step (ch:=ch) hch (λb o hL hb hc e n=>u.keep b o e n (λz=>(bJ.mp (I.BS b z)).elim hL hb) hc) (λb o _ _ hc e n=>u.any e n hc) (λb o hc e n=>u.free b o e n hc) (λb o hc e=>u.there b o e hc) u.tups u.frzs u.tbls (λm' hm=>by
  obtain⟨o',es',ep',ho',r'⟩:=hm;rw[ho]at ho';cases ho';exact⟨_,es',ep',hL,r'⟩) hok hg
def Inv.turned{t':Nat}{it:ak}(I:Inv X pins σ H s)(k:∀b o,b≠it->s.heap.get? b=some o->h'.get? b=some o)(hn:H it=none)(hL:it≠X.env.locals)
  (h1:it∈X.ex\/X.s₀.heap.objs.size<=it) (h2:∀x c,X.env.cells.lookup x=some c->c≠it) (h3:∀p∈X.pn++pins,p.1≠it):Inv X pins σ H { s with heap:=h',toks:=t' }:=by
 have nit:∀b u,H b=some u->b≠it:=λb u e z=>by rw[z,hn]at e;cases e
 refine I.step (g':=s.gens) (d':=s.drawn) (ch:=[it]) (λb hb=>?_) (λb o _ _ hc e _=>k b o (λz=>hc (by simp[z])) e) (λb o _ _ hc e _=>⟨o.slots,k b o (λz=>hc (by simp[z])) e⟩) (λ_ _ _ _ n=>n)
  (λb o hc e=>⟨o,k b o (λz=>hc (by simp[z])) e⟩) (λ_ _ e=>e) (λ_ _ _ e=>e) (λb ps e=>⟨#[],by rw[e];simp⟩) (λm hm=>?_) (λb u e=>?_) I.bare
 ·have e:b=it:=by simpa using hb
  subst e;exact⟨h1,hL,h2,h3⟩
 ·obtain⟨o,es,ep,ho,r⟩:=hm;exact⟨o,es,ep,k _ o (eL hL) ho,r⟩
 ·refine(I.hok b u e).stay (λc v hc q=>k c v ?_ q) (λ_ q=>q) λ_ _ q=>q
  rcases hc with z|z
  ·rw[z];exact nit b u e
  ·exact nit c _ z
def Inv.tok(I:Inv X pins σ H s)(t:Nat):Inv X pins σ H { s with toks:=t }:=I.un (h':=s.heap) (t':=t) Un.refl I.hok
def Inv.kept{t':Nat}(I:Inv X pins σ H s)(k:∀b u,s.heap.get? b=some u->h'.get? b=some u):Inv X pins σ H { s with heap:=h',toks:=t' }:=I.un (Un.kept k) (I.hok.kept k)
def Inv.laid{a:ak}{t':Nat}(I:Inv X pins σ H s)(k:∀b u,s.heap.get? b=some u->h'.get? b=some u)(hp:s.heap.objs.size<=a)(new:kD X.prog X.w (upd H a o) h' a o) :
  Inv X pins σ (upd H a o) { s with heap:=h',toks:=t' }:=I.un (Un.laid k hp (I.hok.fresh hp)) (I.hok.laid k hp new)
def Inv.write{x e:ak}{t':Nat}(I:Inv X pins σ H s)(mu:Q3 (H x))(he:e=x\/H e=some (.own x))(k:∀b u,b≠e->s.heap.get? b=some u->h'.get? b=some u)(heo:∃u,h'.get? e=some u)
  (new:kD X.prog X.w (upd H x o) h' x o):Inv X pins σ (upd H x o) { s with heap:=h',toks:=t' }:=I.un (Un.write mu he k heo) (I.hok.write mu he k heo new)
def Inv.C9{pins':bj}(I:Inv X pins σ H s)(h:∀p∈pins',s.heap.get? p.1=some p.2/\H p.1=none/\p.1≠X.env.locals/\p.1∉X.fs/\∀v,p.2.data≠.cell v):Inv X pins' σ H s:=
 ⟨I.ok,I.os,I.bare,I.base,I.loc,I.cell,I.free,I.freeC,λp hp=>(bh.mp hp).elim (λz=>I.pin p (bP _ z)) (h p),I.hok,I.len⟩
def Bb{N:am}(hN:N.Nodup){i j:Nat}{x:Str}(a:N[i]?=some x)(b:N[j]?=some x):i=j:=by
 obtain⟨h1,e1⟩:=aJ.mp a;obtain⟨h2,e2⟩:=aJ.mp b;exact(dG hN).mp (e1.trans e2.symm)
def E4{A:aA}{E:af->aC->Prop}{i:Nat}{x:Str}{v:V}{Q:Unit->aC->Prop}(I:Inv X pins σ H s)(hN:X.N.Nodup)(hi:X.N[i]?=some x)(hx:Loc X.env.scope x)(r:RelV v u)
  (h:∀s',Inv X pins (σ.set i (some v)) H s'->(∃a,Heap.SameBut a s.heap s'.heap/\(a=X.env.locals\/X.env.cells.lookup x=some a))->Q Unit.unit s') (hf:X.fn x=true\/X.env.scope.names.lookup x=some .local:=by first|exact .inl rfl|exact .inr rfl|assumption):wpAny M A (storeName X.env x u) Q E s:=by
 obtain⟨m,hn,hl⟩:=id I.loc;have hcls:(X.env.scope.kind == .class || (X.env.scope.kind == .module && X.env.locals != X.env.globals))=false:=by rw[I.ok.kind];rfl
 have hiσ:i<σ.length:=by rw[I.len];exact(aJ.mp hi).1
 have P_:=I.P_;have tracked:∀{a:ak} {h':aq},(∃o,s.heap.get? a=some o/\H a=none)->Heap.SameBut a s.heap h'->sO X.prog X.w H h':=λ{a h'} ha hs b ob e=>by
  obtain⟨_,_,hfree⟩:=ha;refine(I.hok b ob e).stay (λc w' hc q=>(hs.2 c ?_).trans q) (λ_ q=>q) λ_ _ q=>q;rintro rfl
  rcases hc with rfl|hc
  ·rw[hfree]at e;cases e
  ·rw[hfree]at hc;cases hc
 rcases hx with hk|hk
 ·refine wpAny_storeName_local hk hn (λh' hn' hs=>?_) hcls;obtain⟨oL,_,_,hoL,_⟩:=id hn;refine h _ ⟨I.ok,I.os,I.bare,⟨λb o e n hb hx=>?_,λb o e n hb hx=>?_,I.base.free,λb o e hx=>?_,I.base.tups,I.base.frzs,I.base.tbls⟩,⟨_,hn',λj y v' e1 e2 e3=>?_⟩,λy c e=>?_,I.free,I.freeC,λp hp=>?_,tracked ⟨oL,hoL,I.free⟩ hs,by simpa using I.len⟩ ⟨_,hs,.inl rfl⟩
  ·exact(hs.2 b (bE (bL (bf e) I.ok.above))).trans (I.base.keep b o e n hb hx)
  ·obtain⟨sl,e1⟩:=I.base.slot b o e n hb hx;exact⟨sl,(hs.2 b (bE (bL (bf e) I.ok.above))).trans e1⟩
  ·obtain⟨o',e1⟩:=I.base.there b o e hx;exact⟨o',(hs.2 b (bE (bL (bf e) I.ok.above))).trans e1⟩
  ·by_cases hj:j=i
   ·subst hj;rw[hi]at e1;cases e1;rw[b8 hiσ]at e2
    cases e2
    exact⟨u,r,.inl ⟨hk,by simp⟩⟩
   ·rw[bW (eL hj)]at e2;obtain⟨u',r',q⟩:=hl j y v' e1 e2 e3;refine⟨u',r',?_⟩
    rcases q with⟨k,e⟩|⟨k,c,e,z⟩
    ·refine .inl ⟨k,?_⟩;have:y≠x:=λe=>hj (Bb hN e1 (e ▸ hi));simp[this,e]
    ·exact .inr ⟨k,c,e,z.sameBut hs (P_ y c e)⟩
  ·obtain⟨w',z⟩:=I.cell y c e;exact⟨w',z.sameBut hs (P_ y c e)⟩
  ·obtain⟨e,n,ne,nf,d⟩:=I.pin p hp;exact⟨(hs.2 p.1 ne).trans e,n,ne,nf,d⟩
 ·have hfn:X.fn x=true:=by
   rcases hf with z|z
   ·exact z
   ·rw[z]at hk;cases hk
  obtain⟨c,hc⟩:=I.ok.has x (.inl hk);obtain⟨w',z⟩:=I.cell x c hc;refine wpAny_storeName_cell I.ok.kind hk hc z (λh' hc' hs=>?_);obtain⟨oc,hoc,hocd⟩:=id z;refine h { s with heap:=h' } ⟨I.ok,I.os,I.bare,⟨λb o e n hb hx=>?_,λb o e n hb hx=>?_,I.base.free,λb o e hx=>?_,I.base.tups,I.base.frzs,I.base.tbls⟩,⟨m,hn.sameBut hs (eL (P_ x c hc)),λj y v' e1 e2 e3=>?_⟩,λy c' e=>?_,I.free,I.freeC,λp hp=>?_,tracked ⟨oc,hoc,I.freeC x c hc⟩ hs,by simpa using I.len⟩ ⟨c,hs,.inr hc⟩
  ·exact(hs.2 b (bE (bL (bf e) (I.ok.cab x c hfn hc)))).trans (I.base.keep b o e n hb hx)
  ·obtain⟨sl,e1⟩:=I.base.slot b o e n hb hx;exact⟨sl,(hs.2 b (bE (bL (bf e) (I.ok.cab x c hfn hc)))).trans e1⟩
  ·obtain⟨o',e1⟩:=I.base.there b o e hx;exact⟨o',(hs.2 b (bE (bL (bf e) (I.ok.cab x c hfn hc)))).trans e1⟩
  ·by_cases hj:j=i
   ·subst hj;rw[hi]at e1;cases e1;rw[b8 hiσ]at e2
    cases e2
    exact⟨u,r,.inr ⟨.inl hk,c,hc,hc'⟩⟩
   ·rw[bW (eL hj)]at e2;obtain⟨u',r',q⟩:=hl j y v' e1 e2 e3;refine⟨u',r',?_⟩
    rcases q with q|⟨k,c',e,z'⟩
    ·exact .inl q
    ·refine .inr ⟨k,c',e,z'.sameBut hs ?_⟩;rintro rfl;exact hj (Bb hN e1 (I.ok.inj _ _ _ e hc ▸ hi))
  ·by_cases hcc:c'=c
   ·subst hcc;exact⟨_,hc'⟩
   ·obtain⟨w2,z2⟩:=I.cell y c' e;exact⟨w2,z2.sameBut hs hcc⟩
  ·obtain⟨e,n,ne,nf,d⟩:=I.pin p hp;refine⟨(hs.2 p.1 ?_).trans e,n,ne,nf,d⟩;intro q;rw[q,hoc]at e;have q':oc=p.2:=aR e;exact d w' (by rw[<- q'];exact hocd)
def wU{A:aA}{E:af->aC->Prop}{i:Nat}{x:Str}{v:V}{Q:Unit->aC->Prop}(I:Inv X pins σ H s)(hN:X.N.Nodup)(hi:X.N[i]?=some x)(hx:Loc X.env.scope x)(r:RelV v u)
  (h:∀s',Inv X pins (σ.set i (some v)) H s'->Q Unit.unit s') (hf:X.fn x=true\/X.env.scope.names.lookup x=some .local:=by first|exact .inl rfl|exact .inr rfl|assumption):wpAny M A (storeName X.env x u) Q E s:=
 E4 I hN hi hx r (λs' I' _=>h s' I') hf
def Inv.Km{s':aC}{ch:ar}(I:Inv X pins σ H s)(ho:s'.os=s.os)(u:Un (frs X.stack) ch H H' s.heap s'.heap)(hok:sO X.prog X.w H' s'.heap)(hg:AllBare s'.gens)
  (hch:∀b∈ch,(b∈X.ex\/X.s₀.heap.objs.size<=b)/\b≠X.env.locals/\(∀x c,X.env.cells.lookup x=some c->c≠b)/\∀p∈X.pn++pins,p.1≠b):Inv X pins σ H' s':=by
 obtain⟨h',g',d',t',o'⟩:=s';have e:o'=s.os:=ho;subst e;exact I.call (g':=g') (t':=t') (d':=d') u hok hg hch
end
meta abbrev XK:=af->Option ak->Hp->Prop
meta abbrev St:=List (Option V)
meta abbrev VK:=V->Hp->Prop
meta abbrev TE:=St->Hp->VK->Prop
meta abbrev TT:=St->Hp->(Bool->Hp->Prop)->Prop
meta abbrev TA:=St->Hp->(List V->Hp->Prop)->Prop
structure Ends where
 nx:St->Hp->Prop
 rt:VK
 bk:St->Hp->Prop:=λ_ _=>False
 ct:St->Hp->Prop:=λ_ _=>False
meta abbrev TS:=Ends->St->Hp->Prop
abbrev EP (X:Cx)(pins:bj)(σ:St)(Q:VK)(u:af)(s':aC):Prop:=∃v H',Inv X pins σ H' s'/\RelV v u/\Q v H'
abbrev TP (X:Cx)(pins:bj)(σ:St)(Q:Bool->Hp->Prop)(b:Bool)(s':aC):Prop:=∃H',Inv X pins σ H' s'/\Q b H'
abbrev AP (X:Cx)(pins:bj)(σ:St)(Q:List V->Hp->Prop)(us:ap)(s':aC):Prop:=∃vs H',Inv X pins σ H' s'/\Vals vs us/\Q vs H'
abbrev SP (X:Cx)(pins:bj)(D:Ends)(f:Flow)(s':aC):Prop:=
 match f with
 | .next=>∃σ' H',Inv X pins σ' H' s'/\D.nx σ' H'
 | .brk=>∃σ' H',Inv X pins σ' H' s'/\D.bk σ' H'
 | .cont=>∃σ' H',Inv X pins σ' H' s'/\D.ct σ' H'
 | .ret u=>∃v σ' H',Inv X pins σ' H' s'/\RelV v u/\D.rt v H'
abbrev PE (X:Cx)(e:aE)(t:TE):Prop:=
 ∀(pins:bj) (s:aC) (σ:St) (H:Hp) (Q:VK),Inv X pins σ H s->t σ H Q->wpAny (model X.prog X.w) X.A (eval e X.env) (EP X pins σ Q) X.xe s
abbrev PT (X:Cx)(e:aE)(t:TT):Prop:=
 ∀(pins:bj) (s:aC) (σ:St) (H:Hp) (Q:Bool->Hp->Prop),Inv X pins σ H s->t σ H Q->wpAny (model X.prog X.w) X.A (isTrue e X.env (eval e X.env)) (TP X pins σ Q) X.xe s
abbrev PW (X:Cx)(e:aE)(t:TT):Prop:=
 ∀(whole:Sem af) (pins:bj) (s:aC) (σ:St) (H:Hp) (Q:Bool->Hp->Prop),Inv X pins σ H s->t σ H Q->wpAny (model X.prog X.w) X.A (isTrue e X.env whole) (TP X pins σ Q) X.xe s
abbrev PA (X:Cx)(es:List aE)(t:TA):Prop:=
 ∀(pos:Pos) (pins:bj) (s:aC) (σ:St) (H:Hp) (Q:List V->Hp->Prop),Inv X pins σ H s->t σ H Q->wpAny (model X.prog X.w) X.A (spliced (backTo pos (starEach es X.env))) (AP X pins σ Q) X.xe s
abbrev PS (X:Cx)(st:aF)(t:TS):Prop:=
 ∀(pins:bj) (s:aC) (σ:St) (H:Hp) (D:Ends),Inv X pins σ H s->t D σ H->wpAny (model X.prog X.w) X.A (exec st X.env) (SP X pins D) X.xe s
abbrev zw (X:Cx)(st:List aF)(t:TS):Prop:=
 ∀(pins:bj) (s:aC) (σ:St) (H:Hp) (D:Ends),Inv X pins σ H s->t D σ H->wpAny (model X.prog X.w) X.A (execs st X.env) (SP X pins D) X.xe s
def j3{α:Type}{t:Sem α}{Q Q':α->aC->Prop}{A:aA}{E:af->aC->Prop}(h:wpAny M A t Q E s)(hQ:∀a s,Q a s->Q' a s):wpAny M A t Q' E s:=eN h hQ λ_ _ x=>x
section
variable {X:Cx}
abbrev Sq (i:Nat):TE:=λσ H Q=>∃v,σ[i]?=some (some v)/\Q v H
abbrev tC (v:V):TE:=λ_ H Q=>Q v H
def HE{i:Nat}{x:Str}(hN:X.N[i]?=some x)(hv:QK X.env.scope x)(hd:(x == ("__debug__" : Str))=false:=by decide)(hcd:(x == ("__classdict__" : Str))=false:=by decide):PE X (.Name x pos) (Sq i):=by
 x_go;obtain⟨v,e,h⟩:=h;obtain⟨m,hn,hl⟩:=I.loc;obtain⟨u,r,l⟩:=hl i x v hN e hv;have fin:EP X pins σ Q u s:=⟨v,H,I,r,h⟩
 rcases l with⟨hk,hm⟩|⟨hk,c,hc,hcell⟩
 ·exact wpAny_Name (wpAny_loadName_local I.ok.kind hk hn hm fin) hd
 ·rcases hk with hk|hk
  ·exact wpAny_Name (wpAny_loadName_cell I.ok.kind hk hc hcell fin) hd
  ·exact wpAny_Name (wpAny_loadName_free I.ok.kind hk hc hcell fin hcd) hd
def B_{i j pos}:PE X (.Constant (.int i) j pos) (tC (.int i)):=λ_ _ _ H _ I h=>wpAny_Constant_int ⟨.int i,H,I.tok _,⟨_,rfl⟩,h⟩
def QS{b j pos}:PE X (.Constant (.bool b) j pos) (tC (.bl b)):=λ_ _ _ H _ I h=>Constant_bool ⟨.bl b,H,I,rfl,h⟩
def Pb{j pos}:PE X (.Constant .none j pos) (tC .non):=λ_ _ _ H _ I h=>Constant_none ⟨.non,H,I,rfl,h⟩
abbrev Gl (X:Cx)(x:Str):Prop:=X.env.kindOf x=some .globalImplicit
def D6{E:af->aC->Prop}{H:Hp}{x:Str}{Q:af->aC->Prop}(I:Inv X pins σ H s)(hg:Gl X x)(hm:X.mg x=some u)(h:Q u s)
  (hd:(x == ("__debug__" : Str))=false:=by decide):wpAny (model X.prog X.w) X.A (eval (.Name x pos) X.env) Q E s:=
 Calls.Name_function_global I.ok.kind hg (Calls.loadGlobal_global (by rw[I.ok.glob];exact I.mod.glob.keeps I.bk) hm h) hd
def yZ{E:af->aC->Prop}{H:Hp}{x:Str}{Q:af->aC->Prop}(I:Inv X pins σ H s)(hg:Gl X x)(hm:X.mg x=none)(hv:bootBuiltins x=some u)(h:Q u s)
  (hn:x ≠ "__name__" := by decide) (hd:(x == ("__debug__" : Str))=false:=by decide):wpAny (model X.prog X.w) X.A (eval (.Name x pos) X.env) Q E s:=by
 obtain⟨mb,h1,h2⟩:=I.mod.blt;exact Calls.Name_function_global I.ok.kind hg (Calls.loadGlobal_builtin (by rw[I.ok.glob];exact I.mod.glob.keeps I.bk) hm (by rw[I.ok.blt];exact h1.keeps I.bk) ((h2 x hn).trans hv) h) hd
def Mx{x:Str}{v:V}(hg:Gl X x)(hm:X.mg x=some u)(r:RelV v u)(hd:(x == ("__debug__" : Str))=false:=by decide):PE X (.Name x pos) (tC v):=
 λ_ _ _ H _ I h=>D6 I hg hm ⟨v,H,I,r,h⟩ hd
variable {a b:aE}{ta:TE}{pos:Pos}
variable {tA tB':TT}{rest:List aE}
abbrev Rw (t u:TT):TT:=λσ H Q=>t σ H λc H1=>if c=true then u σ H1 Q else Q false H1
abbrev Vv (t u:TT):TT:=λσ H Q=>t σ H λc H1=>if c=true then Q true H1 else u σ H1 Q
abbrev UE (t:TT):TT:=λσ H Q=>t σ H λc H1=>Q (!c) H1
def L5(ha:PT X a tA):PW X (.BoolOp .And [a] pos) tA:=by
 intro wh pins s σ H Q I h;refine isTrue_and (j3 (ha pins s σ H Q I h) λc s1 e=>?_)
 cases c with
 | true=>exact isTrue_and_nil e
 | false=>exact e
def Qm(ha:PT X a tA):PW X (.BoolOp .Or [a] pos) tA:=by
 intro wh pins s σ H Q I h;refine isTrue_or (j3 (ha pins s σ H Q I h) λc s1 e=>?_)
 cases c with
 | false=>exact isTrue_or_nil e
 | true=>exact e
def ON(ha:PT X a tA)(hb:PW X (.BoolOp .And (b::rest) pos) tB'):PW X (.BoolOp .And (a::b::rest) pos) (Rw tA tB'):=by
 intro wh pins s σ H Q I h;refine isTrue_and (j3 (ha pins s σ H _ I h) λc s1 ⟨H1,I1,q1⟩=>?_)
 cases c with
 | true=>exact hb wh pins s1 σ H1 Q I1 q1
 | false=>exact⟨H1,I1,q1⟩
def RN(ha:PT X a tA)(hb:PW X (.BoolOp .Or (b::rest) pos) tB'):PW X (.BoolOp .Or (a::b::rest) pos) (Vv tA tB'):=by
 intro wh pins s σ H Q I h;refine isTrue_or (j3 (ha pins s σ H _ I h) λc s1 ⟨H1,I1,q1⟩=>?_)
 cases c with
 | true=>exact⟨H1,I1,q1⟩
 | false=>exact hb wh pins s1 σ H1 Q I1 q1
def NQ(ha:PT X a tA):PT X (.UnaryOp .Not a pos) (UE tA):=by
 x_go;exact isTrue_not (ha pins s σ H (λc H1=>Q (!c) H1) I h)
abbrev SQ (ta:TE):TE:=λσ H Q=>ta σ H λx H1=>∃c,x=.bl c/\Q (.bl (!c)) H1
def Py(ha:PE X a ta):PE X (.UnaryOp .Not a pos) (SQ ta):=by
 x_go;refine UnaryOp_ (j3 (ha pins s σ H _ I h) λv s1 ⟨x,H1,I1,r1,q1⟩=>?_);obtain⟨c,rfl,q1⟩:=q1
 cases r1
 exact not_of (dS ⟨.bl (!c),H1,I1,rfl,q1⟩)
end
abbrev mw (K:au)(H:Hp)(a:ak)(xs:List V):Prop:=
 Rd H a (.lst xs) \/
  ∃(o:Obj) (its:Array af) (n:Nat),K.lookup a=some o/\o.cls=.type "list" /\ o.dict=none/\o.data=.seq its n/\its.size<=sizeLine/\Vals xs its.toList
abbrev mz (K:au)(H:Hp)(a:ak)(xs:List V):Prop:=
 Rd H a (.tup xs) \/
  ∃(o:Obj) (its:Array af) (n:Nat),K.lookup a=some o/\o.cls=.type "tuple" /\ o.dict=none/\o.data=.seq its n/\its.size<=sizeLine/\Vals xs its.toList
abbrev TR:af->Option V
 | .none=>some .non
 | .bool b=>some (.bl b)
 | .int i _=>some (.int i)
 | .str x _=>some (.str x)
 | .bytes b _=>some (.byt b)
 | .float b _=>some (.flt b)
 | .ref a=>some (.ref a)
 | .type n=>some (.ty n)
 | _=>none
def RelV.abs{x:V}(r:RelV x u):TR u=some x:=by
 cases x with
 | non=>cases r;rfl
 | bl _=>cases r;rfl
 | int _=>obtain⟨t,rfl⟩:=r;rfl
 | str _=>obtain⟨t,rfl⟩:=r;rfl
 | byt _=>obtain⟨t,rfl⟩:=r;rfl
 | flt _=>obtain⟨t,rfl⟩:=r;rfl
 | ref _=>cases r;rfl
 | ty _=>cases r;rfl
def RelV.inj{x:V}(r:RelV x u)(q:RelV y u):x=y:=aR (r.abs.symm.trans q.abs)
theorem Vals.inj:∀{xs ys:List V}{us:ap},Vals xs us->Vals ys us->xs=ys
 | _,_,_,.nil,.nil=>rfl
 | _,_,_,.cons r t,.cons r' t'=>by rw[r.inj r',Vals.inj t t']
section
variable {X:Cx}{pins:bj}{σ:St}{H:Hp}{s:aC}{a:ak}{xs ys:List V}
def mw.of{K:au}(h:H a=some (.lst xs)):mw K H a xs:=.inl (.inl h)
def mz.of{K:au}(h:H a=some (.tup xs)):mz K H a xs:=.inl (.inl h)
def Inv.list(I:Inv X pins σ H s)(h:mw X.K H a xs):∃its:ap,Vals xs its/\PlainL s.heap a its.toArray/\xs.length<=sizeLine:=by
 rcases h with h|⟨o,its,n,hk,hc,hd,hs,hz,r⟩
 ·obtain⟨z,its,n,r,e⟩:=h.ok I.hok;exact⟨its,r,⟨_,n,e,rfl,rfl,rfl⟩,z⟩
 ·refine⟨its.toList,r,⟨o,n,I.PM a o hk,hc,hd,by simpa using hs⟩,?_⟩;have e:=r.length;dsimp[cJ]at e
  lia
def Inv.tuple(I:Inv X pins σ H s)(h:mz X.K H a xs):∃its:ap,Vals xs its/\IsTup s.heap a its.toArray/\xs.length<=sizeLine:=by
 rcases h with h|⟨o,its,n,hk,hc,_,hs,hz,r⟩
 ·obtain⟨z,its,r,p⟩:=h.ok I.hok;exact⟨its,r,p.tup,z⟩
 ·refine⟨its.toList,r,⟨o,I.PM a o hk,hc,n,by simpa using hs⟩,?_⟩;have e:=r.length;dsimp[cJ]at e
  lia
def Inv.Pf(I:Inv X pins σ H s)(h:mz X.K H a xs):∃o,s.heap.get? a=some o/\o.cls=.type "tuple" /\ o.dict=none:=by
 rcases h with h|⟨o,its,n,hk,hc,hd,hs,hz,r⟩
 ·obtain⟨z,its,r,o,e,c,d,_⟩:=h.ok I.hok;exact⟨o,e,c,d⟩
 ·exact⟨o,I.PM a o hk,hc,hd⟩
def Inv.HX(I:Inv X pins σ H s)(h:mw X.K H a xs)(h':mw X.K H a ys):xs=ys:=by
 obtain⟨its,r,⟨o,n,e,_,_,d⟩,_⟩:=I.list h;obtain⟨its',r',⟨o',n',e',_,_,d'⟩,_⟩:=I.list h';rw[e]at e';cases e';rw[d]at d'
 injection d' with d1 _
 have:its=its':=by simpa using dM Array.toList d1
 subst this;exact r.inj r'
def Inv.yl(I:Inv X pins σ H s)(h:mz X.K H a xs)(h':mz X.K H a ys):xs=ys:=by
 obtain⟨its,r,⟨o,e,_,n,d⟩,_⟩:=I.tuple h;obtain⟨its',r',⟨o',e',_,n',d'⟩,_⟩:=I.tuple h';rw[e]at e';cases e';rw[d]at d'
 injection d' with d1 _
 have:its=its':=by simpa using dM Array.toList d1
 subst this;exact r.inj r'
end
meta abbrev Cx.xq (X:Cx)(E:af->aC->Prop):Cx:={ X with xe:=E }
meta abbrev Cx.QX (X:Cx):Cx:=X.xq λ_ _=>False
def Cx.Ok.xq{X:Cx}(ok:X.Ok)(E:af->aC->Prop):(X.xq E).Ok:=
 ⟨ok.mod,ok.kind,ok.glob,ok.blt,ok.above,ok.inj,ok.has,ok.cab,ok.hd,ok.frames,ok.stk,ok.exf,ok.bs,ok.bsz,ok.noex,ok.exfs,ok.xh,ok.frf⟩
def Cx.Ok.qG{X:Cx}{E:af->aC->Prop}(ok:(X.xq E).Ok):X.Ok:=
 ⟨ok.mod,ok.kind,ok.glob,ok.blt,ok.above,ok.inj,ok.has,ok.cab,ok.hd,ok.frames,ok.stk,ok.exf,ok.bs,ok.bsz,ok.noex,ok.exfs,ok.xh,ok.frf⟩
section
variable {X:Cx}{pins:bj}{σ:St}{H:Hp}{s:aC}{E:af->aC->Prop}
def Inv.xq(I:Inv X pins σ H s)(E:af->aC->Prop):Inv (X.xq E) pins σ H s:=⟨I.ok.xq E,I.os,I.bare,I.base,I.loc,I.cell,I.free,I.freeC,I.pin,I.hok,I.len⟩
def Inv.qG(I:Inv (X.xq E) pins σ H s):Inv X pins σ H s:=⟨I.ok.qG,I.os,I.bare,I.base,I.loc,I.cell,I.free,I.freeC,I.pin,I.hok,I.len⟩
def SP.qG{D:Ends}{f:Flow}(h:SP (X.xq E) pins D f s'):SP X pins D f s':=by
 cases f with
 | next=>obtain⟨σ',H',I,q⟩:=h;exact⟨σ',H',I.qG,q⟩
 | brk=>obtain⟨σ',H',I,q⟩:=h;exact⟨σ',H',I.qG,q⟩
 | cont=>obtain⟨σ',H',I,q⟩:=h;exact⟨σ',H',I.qG,q⟩
 | ret u=>obtain⟨v,σ',H',I,r,q⟩:=h;exact⟨v,σ',H',I.qG,r,q⟩
def zw.QX{st:List aF}{t:TS}(h:zw X.QX st t):zw X st t:=λpins s σ H D I hw=>
 eN (h pins s σ H D (I.xq _) hw) (λ_ _ q=>q.qG) λ_ _ z=>False.elim z
end
section
variable {X:Cx}{st:aF}{rest:List aF}{t u:TS}{e:aE}{te:TE}{pos:Pos}
abbrev Sy:TS:=λD σ H=>D.nx σ H
abbrev RE (t u:TS):TS:=λD σ H=>t { D with nx:=u D } σ H
def Me:zw X [] Sy:=λ_ _ σ H _ I h=>gQ ⟨σ,H,I,h⟩
def Jl(h1:PS X st t)(h2:zw X rest u):zw X (st::rest) (RE t u):=by
 kcj_m;refine wpAny_execs_cons (j3 (h1 pins s σ H { D with nx:=u D } I h) λf s1 q=>?_)
 cases f with
 | next=>
  obtain⟨σ',H',I',q⟩:=q;exact h2 pins s1 σ' H' D I' q
 | ret v=>exact q
 | brk=>exact q
 | cont=>exact q
def KU(h1:PS X st t):zw X [st] t:=by
 kcj_m;refine wpAny_execs_cons (j3 (h1 pins s σ H D I h) λf s1 q=>?_)
 cases f with
 | next=>exact gQ q
 | ret v=>exact q
 | brk=>exact q
 | cont=>exact q
def Inv.quiet{H:Hp}(I:Inv X pins σ H s):interactive X.env=false:=by simp[interactive,I.ok.kind]
abbrev RV (te:TE):TS:=λD σ H=>te σ H λ_ H1=>D.nx σ H1
def KR(he:PE X e te)(hs:swapsWith e none pos.line X.env=pure false:=by rfl):PS X (.Expr e pos) (RV te):=by
 kcj_m;exact wpAny_Expr_any (j3 (he pins s σ H _ I h) λv s1 ⟨x,H1,I1,r1,q1⟩=>⟨σ,H1,I1,q1⟩) I.quiet hs
abbrev To (te:TE):TS:=λD σ H=>te σ H D.rt
def OD(he:PE X e te):PS X (.Return (some e) pos) (To te):=by
 kcj_m;exact wpAny_Return_some (j3 (he pins s σ H _ I h) λv s1 ⟨x,H1,I1,r1,q1⟩=>⟨x,σ,H1,I1,r1,q1⟩)
abbrev QM:TS:=λD _ H=>D.rt .non H
def Mq:PS X (.Return none pos) QM:=λ_ _ σ H _ I h=>wpAny_Return_none ⟨.non,σ,H,I,rfl,h⟩
abbrev TU (c:TT)(t u:TS):TS:=λD σ H=>c σ H λb H1=>if b=true then t D σ H1 else u D σ H1
def Rt{c:aE}{a:List aF}{tc:TT}(hc:PT X c tc)(ha:zw X a t)(hb:zw X b u):PS X (.If c a b pos) (TU tc t u):=by
 kcj_m;refine wpAny_If (j3 (hc pins s σ H _ I h) λd s1 ⟨H1,I1,q1⟩=>?_)
 cases d with
 | true=>exact ha pins s1 σ H1 D I1 q1
 | false=>exact hb pins s1 σ H1 D I1 q1
abbrev Oc:TS:=λ_ _ _=>False
def Gn:PS X st Oc:=λ_ _ _ _ _ _ h=>h.elim
end
meta abbrev TG:=V->St->Hp->(St->Hp->Prop)->Prop
meta abbrev M9:=List V->St->Hp->(St->Hp->Prop)->Prop
abbrev PG (X:Cx)(target:aE)(t:TG):Prop:=
 ∀(pins:bj) (s:aC) (σ:St) (H:Hp) (v:V) (u:af) (Q:St->Hp->Prop),Inv X pins σ H s->RelV v u->t v σ H Q ->
  wpAny (model X.prog X.w) X.A (assign target X.env u) (λ_ s'=>∃σ' H',Inv X pins σ' H' s'/\Q σ' H') X.xe s
abbrev Rv (X:Cx)(ts:List aE)(t:M9):Prop:=
 ∀(pins:bj) (s:aC) (σ:St) (H:Hp) (vs:List V) (us:ap) (Q:St->Hp->Prop),Inv X pins σ H s->Vals vs us->t vs σ H Q ->
  wpAny (model X.prog X.w) X.A (assignInOrder ((assignEach ts X.env).map (·.2)) us) (λ_ s'=>∃σ' H',Inv X pins σ' H' s'/\Q σ' H') X.xe s
meta abbrev Cg:=V->V->V->Hp->(Hp->Prop)->Prop
abbrev F1 (X:Cx)(t:Cg):Prop:=
 ∀(pins:bj) (s:aC) (σ:St) (H:Hp) (o i v:V) (ov iv u:af) (Q:Hp->Prop),Inv X pins σ H s->RelV o ov->RelV i iv->RelV v u->t o i v H Q ->
  wpAny (model X.prog X.w) X.A (setItem ov iv u) (λ_ s'=>∃H',Inv X pins σ H' s'/\Q H') X.xe s
meta abbrev O3:=V->V->Hp->VK->Prop
abbrev M5 (X:Cx)(op:Operator)(t:O3):Prop:=
 ∀(pins:bj) (s:aC) (σ:St) (H:Hp) (x y:V) (v u:af) (Q:VK),Inv X pins σ H s->RelV x v->RelV y u->t x y H Q ->
  wpAny (model X.prog X.w) X.A (inplaceOp op v u) (EP X pins σ Q) X.xe s
section
variable {X:Cx}{pos:Pos}
abbrev Hj (i:Nat):TG:=λv σ H Q=>Q (σ.set i (some v)) H
def Ek{i:Nat}{x:Str}(hN:X.N.Nodup)(hi:X.N[i]?=some x)(hx:Loc X.env.scope x)(hf:X.fn x=true\/X.env.scope.names.lookup x=some .local:=by first|exact .inl rfl|exact .inr rfl|assumption):PG X (.Name x pos) (Hj i):=by
 intro pins s σ H v u Q I r h;exact wpAny_assign_Name (wU I hN hi hx r (λs' I'=>⟨_,H,I',h⟩) hf)
abbrev TZ:M9:=λvs σ H Q=>vs=[]/\Q σ H
abbrev SH (t:TG)(u:M9):M9:=λvs σ H Q=>∃v r,vs=v::r/\t v σ H λσ' H'=>u r σ' H' Q
def LQ:Rv X [] TZ:=by
 intro pins s σ H vs us Q I r h;obtain⟨e,h⟩:=h;subst e
 cases r
 exact assignInOrder_nil ⟨σ,H,I,h⟩
def IS{e:aE}{t:TG}{u:M9}(h1:PG X e t)(h2:Rv X es u)
  (hs:(assignEach (e::es) X.env).map (·.2)=assign e X.env::(assignEach es X.env).map (·.2):=by rfl):Rv X (e::es) (SH t u):=by
 intro pins s σ H vs us Q I r h;obtain⟨v,vr,e1,h⟩:=h;subst e1
 cases r with
 | cons r rr=>
  rw[hs];refine assignInOrder_cons (j3 (h1 pins s σ H _ _ _ I r h) λ_ s1 ⟨σ1,H1,I1,q1⟩=>?_);exact h2 pins s1 σ1 H1 _ _ Q I1 rr q1
abbrev UR (K:au)(n:Nat)(t:M9):TG:=λv σ H Q=>∃a xs,v=.ref a/\mz K H a xs/\xs.length=n/\t xs σ H Q
def Pg{k:Nat}{t:M9}{n:Nat}(hc:X.calm=true)(h:Rv X es t)
  (hn:(assignEach es X.env).length=n:=by rfl) (hst:(assignEach es X.env).findIdx? (·.1)=none:=by rfl):PG X (.Tuple es k pos) (UR X.K n t):=by
 intro pins s σ H v u Q I r hw;obtain⟨a,xs,e1,hq,hl,hw⟩:=hw;subst e1
 cases r
 obtain⟨its,rv,ht,hz⟩:=I.tuple hq;refine assign_Tuple_tuple (I.ok.hd hc) ht (by simp[hn,<- hl,rv.length]) hst λh' hx=>?_;have I1:Inv X pins σ H { s with heap:=h' }:=I.kept (t':=s.toks) λb o e=>hx b o (bE (bf e)) e;exact h pins _ σ H xs _ Q I1 (by simpa using rv) hw
abbrev UB (to ti:TE)(t:Cg):TG:=λv σ H Q=>to σ H λo H1=>ti σ H1 λi H2=>t o i v H2 λH3=>Q σ H3
def Ga{to ti:TE}{t:Cg}(ho:PE X o to)(hi:PE X i ti)(hs:F1 X t)
  (ha:∀v,assign (.Subscript o i pos) X.env v=(do
   let ov <- holding [v] (eval o X.env)
   let iv <- holding [v,ov] (eval i X.env)
   standAt pos
   holding [v,ov,iv] (setItem ov iv v)
   release [v,ov,iv] []):=by intro _;rfl):PG X (.Subscript o i pos) (UB to ti t):=by
 intro pins s σ H v u Q I r h;rw[ha];refine aH (di (j3 (ho pins s σ H _ I h) λov s1 ⟨x,H1,I1,r1,q1⟩=>?_));refine aH (di (j3 (hi pins s1 σ H1 _ I1 q1) λiv s2 ⟨y,H2,I2,r2,q2⟩=>?_));refine aH (d_ (aH (di (j3 (hs pins s2 σ H2 x y v ov iv u _ I2 r1 r2 r q2) λ_ s3 ⟨H3,I3,q3⟩=>?_))));exact wpAny_release ⟨σ,H3,I3,q3⟩
abbrev Le (te:TE)(g:TG):TS:=λD σ H=>te σ H λx H1=>g x σ H1 D.nx
def OL{tg e:aE}{te:TE}{g:TG}(he:PE X e te)(hg:PG X tg g)(hs:swapsWithSole [tg] e pos.line X.env=pure false:=by rfl)(hw:swappedStores [tg] e X.env=pure none:=by rfl)
  (h1:(assignEach [tg] X.env).map (·.2)=[assign tg X.env]:=by rfl):PS X (.Assign [tg] e pos) (Le te g):=by
 kcj_m;refine wpAny_Assign_stores (j3 (he pins s σ H _ I h) λv s1 ⟨x,H1,I1,r1,q1⟩=>?_) hs hw;rw[h1];exact j3 (hg pins s1 σ H1 x v _ I1 r1 q1) λ_ s2 q=>q
def OI{i:Nat}{x:Str}{e:aE}{te:TE}(hN:X.N.Nodup)(hi:X.N[i]?=some x)(hx:Loc X.env.scope x)(he:PE X e te)(hs:swapsWith e (some (.Name x pos')) pos.line X.env=pure false:=by rfl)(hf:X.fn x=true\/X.env.scope.names.lookup x=some .local:=by first|exact .inl rfl|exact .inr rfl|assumption) :
  PS X (.Assign [.Name x pos'] e pos) (Le te (Hj i)):=by
 kcj_m;refine wpAny_Assign_Name (j3 (he pins s σ H _ I h) λv s1 ⟨y,H1,I1,r1,q1⟩=>?_) hs;exact wU I1 hN hi hx r1 (λs2 I2=>⟨_,H1,I2,q1⟩) hf
abbrev U0 (i:Nat)(te:TE)(ti:O3):TS:=λD σ H=>∃x,σ[i]?=some (some x)/\te σ H λy H1=>ti x y H1 λz H2=>D.nx (σ.set i (some z)) H2
def OO{i:Nat}{x:Str}{e:aE}{te:TE}{ti:O3}(hN:X.N.Nodup)(hi:X.N[i]?=some x)(hx:Loc X.env.scope x)(he:PE X e te)(ho:M5 X op ti)(hf:X.fn x=true\/X.env.scope.names.lookup x=some .local:=by first|exact .inl rfl|exact .inr rfl|assumption) :
  PS X (.AugAssign (.Name x pos') op e pos) (U0 i te ti):=by
 kcj_m;obtain⟨v,e1,h⟩:=h;obtain⟨m,hn,hl⟩:=I.loc;have vis:QK X.env.scope x:=by rcases hx with k|k;exact .inl k;exact .inr (.inl k)
 obtain⟨u,r,l⟩:=hl i x v hi e1 vis;refine wpAny_AugAssign_Name ?_;have go:wpAny (model X.prog X.w) X.A (eval e X.env) (λw s₂=>wpAny (model X.prog X.w) X.A (inplaceOp op u w) (λr s₃=>wpAny (model X.prog X.w) X.A (storeName X.env x r) (λ_=>SP X pins D .next) X.xe s₃) X.xe s₂) X.xe s:=by
  refine j3 (he pins s σ H _ I h) λw s1 ⟨y,H1,I1,r1,q1⟩=>?_;refine j3 (ho pins s1 σ H1 v y u w _ I1 r r1 q1) λz s2 ⟨zv,H2,I2,r2,q2⟩=>?_;exact wU I2 hN hi hx r2 (λs3 I3=>⟨_,H2,I3,q2⟩) hf
 rcases l with⟨hk,hm⟩|⟨hk,c,hc,hcell⟩
 ·exact wpAny_loadName_local I.ok.kind hk hn hm go
 ·rcases hk with hk|hk
  ·exact wpAny_loadName_cell I.ok.kind hk hc hcell go
  ·rcases hx with k|k
   ·have:X.env.scope.names.lookup x=some .free:=hk;rw[k]at this;cases this
   ·have:X.env.scope.names.lookup x=some .free:=hk;rw[k]at this;cases this
abbrev Sa (to ti te:TE)(tget:V->V->Hp->VK->Prop)(tip:O3)(tset:Cg):TS:=λD σ H=>to σ H λo H1=>ti σ H1 λi H2=>tget o i H2 λx H3=>te σ H3 λy H4=>tip x y H4 λz H5=>tset o i z H5 λH6=>D.nx σ H6
abbrev PD (X:Cx)(t:V->V->Hp->VK->Prop):Prop:=
 ∀(pins:bj) (s:aC) (σ:St) (H:Hp) (o i:V) (ov iv:af) (Q:VK),Inv X pins σ H s->RelV o ov->RelV i iv->t o i H Q ->
  wpAny (model X.prog X.w) X.A (getItem ov iv) (EP X pins σ Q) X.xe s
def K6{e:aE}{to ti te:TE}{tget:V->V->Hp->VK->Prop}{tip:O3}{tset:Cg}(ho:PE X o to)(hi:PE X i ti)(hg:PD X tget)(he:PE X e te)(hp:M5 X op tip)(hs:F1 X tset)
  (ha:∀ov iv new,augStore i ov iv new=(do holding [new,ov,iv] (setItem ov iv new);release [new,ov,iv] [];pure .next):=by intros;rfl):PS X (.AugAssign (.Subscript o i tpos) op e pos) (Sa to ti te tget tip tset):=by
 kcj_m;refine wpAny_AugAssign_SubscriptAny (j3 (ho pins s σ H _ I h) λov s1 ⟨x1,H1,I1,r1,q1⟩=>?_) ha;refine j3 (hi pins s1 σ H1 _ I1 q1) λiv s2 ⟨x2,H2,I2,r2,q2⟩=>?_;refine j3 (hg pins s2 σ H2 x1 x2 ov iv _ I2 r1 r2 q2) λold s3 ⟨x3,H3,I3,r3,q3⟩=>?_;refine j3 (he pins s3 σ H3 _ I3 q3) λv s4 ⟨x4,H4,I4,r4,q4⟩=>?_;refine j3 (hp pins s4 σ H4 x3 x4 old v _ I4 r3 r4 q4) λnew s5 ⟨x5,H5,I5,r5,q5⟩=>?_;exact j3 (hs pins s5 σ H5 x1 x2 x5 ov iv new _ I5 r1 r2 r5 q5) λ_ s6 ⟨H6,I6,q6⟩=>⟨σ,H6,I6,q6⟩
abbrev Vr (f:Int->Int->Int):O3:=λx y H Q=>∃i j,x=.int i/\y=.int j/\Q (.int (f i j)) H
def Oa:M5 X .Add (Vr λi j=>i+j):=by
 intro pins s σ H x y v u Q I r1 r2 h;obtain⟨i,j,e1,e2,q⟩:=h;subst e1;subst e2;obtain⟨t,rfl⟩:=r1;obtain⟨t',rfl⟩:=r2;exact iadd_int ⟨.int _,H,I.tok _,⟨_,rfl⟩,q⟩
def O0:M5 X .Sub (Vr λi j=>i-j):=by
 intro pins s σ H x y v u Q I r1 r2 h;obtain⟨i,j,e1,e2,q⟩:=h;subst e1;subst e2;obtain⟨t,rfl⟩:=r1;obtain⟨t',rfl⟩:=r2;exact isub_int ⟨.int _,H,I.tok _,⟨_,rfl⟩,q⟩
end
section
variable {X:Cx}{pos:Pos}
abbrev Io (c:TT)(tb:TS):TS:=λD σ H=>∃W:Nat->St->Hp->Prop,(∃m,W m σ H)/\∀m σ H,W m σ H ->
 c σ H λb H1=>if b=true then ∃N:St->Hp->Prop,(∀σ' H',N σ' H'->∃m',m'<m/\W m' σ' H')/\tb { D with nx:=N,ct:=N,bk:=D.nx } σ H1 else D.nx σ H1
def J_{c:aE}{tc:TT}{tb:TS}(hp:PassesOwn (model X.prog X.w) X.A X.env X.xe)(hc:PT X c tc)(hb:zw X body tb):PS X (.While c body [] pos) (Io tc tb):=by
 kcj_m;obtain⟨W,⟨m0,w0⟩,turn⟩:=h;refine wpAny_While (codeAny_whileLoop (λn s'=>∃σ' H',Inv X pins σ' H' s'/\W n σ' H') ?_ m0 ⟨σ,H,I,w0⟩);rintro n s1 ⟨σ1,H1,I1,w1⟩;refine dQ hp (j3 (hc pins s1 σ1 H1 _ I1 (turn n σ1 H1 w1)) λb s2 ⟨H2,I2,q2⟩=>?_)
 cases b with
 | true=>
  obtain⟨N,hN,q2⟩:=q2;rw[aN rfl];refine dQ hp (j3 (hb pins s2 σ1 H2 _ I2 q2) λf s3 q3=>?_)
  cases f with
  | next=>
   obtain⟨σ3,H3,I3,n3⟩:=q3;obtain⟨m',hm,w3⟩:=hN σ3 H3 n3;exact⟨m',hm,σ3,H3,I3,w3⟩
  | cont=>
   obtain⟨σ3,H3,I3,n3⟩:=q3;obtain⟨m',hm,w3⟩:=hN σ3 H3 n3;exact⟨m',hm,σ3,H3,I3,w3⟩
  | brk=>exact q3
  | ret v=>exact q3
 | false=>
  rw[aM bq];exact gQ ⟨σ1,H2,I2,q2⟩
end
structure It where
 go:Nat->Hp->Prop
 yld:Nat->Hp->V->Hp->Prop
 stop:Nat->Hp->Prop
abbrev qx (X:Cx)(pins:bj)(H:Hp)(b:ak):Prop:=
 H b=none/\b≠X.env.locals/\b∉X.fs/\(b∈X.ex\/X.s₀.heap.objs.size<=b)/\(∀x c,X.env.cells.lookup x=some c->c≠b)/\∀p∈X.pn++pins,p.1≠b
def Inv.Fe{X:Cx}{H H':Hp}{s:aC}(I:Inv X pins σ H s)(hb:s.heap.objs.size<=b)(hn:H' b=none):qx X pins H' b:=by
 refine⟨hn,ne_of_gt (bL I.lt hb),I.Ug hb,.inr (bS I.sz hb),λx c e z=>?_,λp hp z=>?_⟩
 ·obtain⟨v,q⟩:=I.cell x c e;exact absurd (bL q.lt (by rw[z];exact hb)) (d9 _)
 ·exact absurd (bL (bf (I.pin p hp).1) (by rw[z];exact hb)) (d9 _)
structure Turn (P:aj)(w:ah)(K:au)(tg:aE)(J:It)(fp:ar)(it:ak)(tn:Nat->aq->Prop):Prop where
 mem:it∈fp
 obj:∀i h,tn i h->∀b∈fp,∃o,h.get? b=some o/\∀v,o.data≠.cell v
 keep:∀i h h',tn i h->(∀b∈fp,∀o,h.get? b=some o->h'.get? b=some o)->tn i h'
 item:∀(X:Cx),X.prog=P->X.w=w->X.K=K->X.calm=true->∀(i:Nat) (pins:bj) (s:aC) (σ:St) (H:Hp) (E:af->aC->Prop),Inv X pins σ H s->(∀b∈fp,qx X pins H b)->tn i s.heap->J.go i H ->
  wpAny (model P w) X.A (pyNext (.ref it)) (λr s1=>∃u,r=some u /\
   wpAny (model P w) X.A (letOwnedTupleGo tg (.ref it) u) (λ_ s2=>∃x H',Inv X pins σ H' s2/\RelV x u/\J.yld i H x H'/\tn (i+1) s2.heap/\∀b∈fp,H' b=none) E s1) E s
 done:∀(X:Cx),X.prog=P->X.w=w->X.K=K->X.calm=true->∀(i:Nat) (pins:bj) (s:aC) (σ:St) (H:Hp) (E:af->aC->Prop),Inv X pins σ H s->(∀b∈fp,qx X pins H b)->tn i s.heap->J.stop i H ->
  wpAny (model P w) X.A (pyNext (.ref it)) (λr s1=>r=none/\Inv X pins σ H s1) E s
 self:∀(A:aA) (i:Nat) (s:aC) (Q:af->aC->Prop) (E:af->aC->Prop),tn i s.heap->Q (.ref it) s->wpAny (model P w) A (pyIter (.ref it)) Q E s
meta abbrev TI:=St->Hp->(It->Hp->Prop)->Prop
abbrev Vp (X:Cx)(pins:bj)(σ:St)(tg:aE)(R:It->Hp->Prop)(itv:af)(s2:aC):Prop:=
 ∃(it:ak) (fp:ar) (tn:Nat->aq->Prop) (J:It) (H':Hp),itv=.ref it/\Inv X pins σ H' s2/\Turn X.prog X.w X.K tg J fp it tn/\tn 0 s2.heap/\(∀b∈fp,qx X pins H' b)/\R J H'
abbrev PI (X:Cx)(tg iter:aE)(wi:TI):Prop:=
 ∀(pins:bj) (s:aC) (σ:St) (H:Hp) (R:It->Hp->Prop),Inv X pins σ H s->wi σ H R ->
  wpAny (model X.prog X.w) X.A (eval iter X.env) (λv s1=>wpAny (model X.prog X.w) X.A (pyIter v) (Vp X pins σ tg R) X.xe s1) X.xe s
def CF{A:aA}{E:af->aC->Prop}{s:aC}{o:Obj}{n:String}{Q:Unit->aC->Prop}(ho:s.heap.get? it=some o)(hc:o.cls=.type n)(hd:o.data=.fields vs)
  (hn:["enumerate", "zip", "dict_itemiterator", "dict_reverseitemiterator", "odict_iterator", "itertools.zip_longest", "itertools.pairwise"].contains n=false) (hQ:Q Unit.unit s):wpAny M A (letOwnedTupleGo tg (.ref it) u) Q E s:=by
 unfold letOwnedTupleGo
 cases tg<;>first
  | exact aL hQ
  | (cases u<;>first
    | exact aL hQ
    | (refine aH (wpAny_load ho ?_)
       rw[hc,hd];show wpAny M A (if (["enumerate", "zip", "dict_itemiterator", "dict_reverseitemiterator", "odict_iterator", "itertools.zip_longest", "itertools.pairwise"].contains n && vs[0]? == some (rawInt _))=true then _ else _) Q E s;rw[aM (by intro h;rw[hn,Bool.false_and]at h;cases h)];exact aL hQ))
abbrev Tf (K:au)(a:ak):It:=
 ⟨λi H=>∃xs x,mw K H a xs/\xs[i]?=some x,λi H x H'=>H'=H/\∀xs,mw K H a xs->xs[i]?=some x,λi H=>∃xs,mw K H a xs/\xs.length<=i⟩
abbrev UY (K:au)(a:ak):It:=
 ⟨λi H=>∃xs x,mz K H a xs/\xs[i]?=some x,λi H x H'=>H'=H/\∀xs,mz K H a xs->xs[i]?=some x,λi H=>∃xs,mz K H a xs/\xs.length<=i⟩
abbrev SA (lo:Int)(n:Nat):It:=⟨λi _=>i<n,λi H x H'=>H'=H/\x=.int (lo+i),λi _=>n<=i⟩
def E8{P:aj}{w:ah}{K:au}(a it:ak):Turn P w K tg (Tf K a) [it] it (λi h=>h.IsListIter it a i) where
 mem:=by simp
 obj:=λi h st b hb=>by
  have e:b=it:=by simpa using hb
  subst e;obtain⟨o,e,c,d⟩:=st;exact⟨o,e,λv z=>by rw[d]at z;cases z⟩
 keep:=λi h h' st k=>st.at λo e=>k it (by simp) o e
 item:=by
  w_up;subst hP hw hK;obtain⟨xs,x,hq,hx⟩:=hg;obtain⟨its,rv,p,hz⟩:=I.list hq;obtain⟨u,hu,ru⟩:=rv.get hx;gn_on;refine wpAny_pyNext_list_item st p.isList (x:=u) (by simpa using hu) λh' st' sb=>?_;have I1:Inv X pins σ H { s with heap:=h' }:=I.turned (t':=s.toks) (λb o hb e=>(sb.2 b hb).trans e) f0 f1 f3 f4 f5;obtain⟨o,e,c,d⟩:=id st';exact⟨u,rfl,CF (s:={ s with heap:=h' }) e c d ⋯ ⟨x,H,I1,ru,⟨rfl,λys hy=>by rw[I.HX hy hq];exact hx⟩,st',λb hb=>(hf b hb).1⟩⟩
 done:=by
  w_up;subst hP hw hK;obtain⟨xs,hq,hx⟩:=hg;obtain⟨its,rv,p,hz⟩:=I.list hq;gn_on;have hl:=rv.length;exact wpAny_pyNext_list_end (I.ok.hd hc) st p.isList (by simp;omega) λh' eb=>⟨rfl,I.turned (t':=s.toks) (λb o hb e=>eb b o hb e) f0 f1 f3 f4 f5⟩
 self:=λ_ _ _ _ _ st h=>wpAny_pyIter_listiter st h
def BD{P:aj}{w:ah}{K:au}(a it:ak):Turn P w K tg (UY K a) [it] it (λi h=>h.IsTupleIter it a i) where
 mem:=by simp
 obj:=λi h st b hb=>by
  have e:b=it:=by simpa using hb
  subst e;obtain⟨o,e,c,d⟩:=st;exact⟨o,e,λv z=>by rw[d]at z;cases z⟩
 keep:=λi h h' st k=>st.at λo e=>k it (by simp) o e
 item:=by
  w_up;subst hP hw hK;obtain⟨xs,x,hq,hx⟩:=hg;obtain⟨its,rv,p,hz⟩:=I.tuple hq;obtain⟨u,hu,ru⟩:=rv.get hx;gn_on;refine wpAny_pyNext_tuple_item st (show s.heap.IsTuple a its.toArray from p) (x:=u) (by simpa using hu) λh' st' sb=>?_;have I1:Inv X pins σ H { s with heap:=h' }:=I.turned (t':=s.toks) (λb o hb e=>(sb.2 b hb).trans e) f0 f1 f3 f4 f5;obtain⟨o,e,c,d⟩:=id st';exact⟨u,rfl,CF (s:={ s with heap:=h' }) e c d ⋯ ⟨x,H,I1,ru,⟨rfl,λys hy=>by rw[I.yl hy hq];exact hx⟩,st',λb hb=>(hf b hb).1⟩⟩
 done:=by
  w_up;subst hP hw hK;obtain⟨xs,hq,hx⟩:=hg;obtain⟨its,rv,p,hz⟩:=I.tuple hq;gn_on;have hl:=rv.length;exact wpAny_pyNext_tuple_end (I.ok.hd hc) st (show s.heap.IsTuple a its.toArray from p) (by simp;lia) λh' eb=>⟨rfl,I.turned (t':=s.toks) (λb o hb e=>eb b o hb e) f0 f1 f3 f4 f5⟩
 self:=λ_ _ _ _ _ st h=>wpAny_pyIter_tupleiter st h
def BI{P:aj}{w:ah}{K:au}(it:ak)(lo:Int)(n:Nat):Turn P w K tg (SA lo n) [it] it (λi h=>IsRangeIter h it (lo+(i:Nat) * 1) ((n:Int)-(i:Nat)) 1) where
 mem:=by simp
 obj:=λi h st b hb=>by
  have e:b=it:=by simpa using hb
  subst e;exact⟨_,st,λv z=>by
   have z':Data.fields _=Data.cell v:=z
   cases z'⟩
 keep:=λi h h' st k=>k it (by simp) _ st
 item:=by
  w_up;subst hP hw hK;gn_on;have W:=Walks.range (prog:=X.prog) (w:=X.w) (I.ok.hd hc) it lo 1 n;refine W.item i s _ _ hg st λv h' tk hv st' kk=>?_;obtain⟨t,rfl⟩:=hv;have I1:Inv X pins σ H { s with heap:=h',toks:=tk }:=I.turned (λb o hb e=>kk b o (by simpa using hb) e) f0 f1 f3 f4 f5;refine⟨_,rfl,CF (s:={ s with heap:=h',toks:=tk }) (n := "range_iterator") st' rfl rfl ⋯ ⟨.int (lo+i),H,I1,⟨t,?_⟩,⟨rfl,rfl⟩,st',λb hb=>(hf b hb).1⟩⟩;rw[Int.mul_one]
 done:=by
  w_up;subst hP hw hK;gn_on;exact wpAny_pyNext_range_end (I.ok.hd hc) st (by have:n<=i:=hg;lia) λh' eb=>⟨rfl,I.turned (t':=s.toks) (λb o hb e=>eb b o hb e) f0 f1 f3 f4 f5⟩
 self:=λ_ _ _ _ _ st h=>wpAny_pyIter_rangeiter st h
section
variable {X:Cx}{tg:aE}
abbrev RQ (K:au)(tl:TE):TI:=λσ H R=>tl σ H λx H1=>∃a,x=.ref a/\(∃xs,mw K H1 a xs)/\R (Tf K a) H1
abbrev UD (K:au)(tl:TE):TI:=λσ H R=>tl σ H λx H1=>∃a,x=.ref a/\(∃xs,mz K H1 a xs)/\R (UY K a) H1
def DX{tl:TE}(hl:PE X l tl):PI X tg l (RQ X.K tl):=by
 intro pins s σ H R I h;refine j3 (hl pins s σ H _ I h) λv s1 ⟨x,H1,I1,r1,q1⟩=>?_;obtain⟨a,e,⟨xs,hq⟩,q⟩:=q1;subst e
 cases r1
 obtain⟨its,rv,p,hz⟩:=I1.list hq;refine wpAny_pyIter_list p.isList ?_;refine⟨s1.heap.objs.size,[s1.heap.objs.size],_,_,H1,rfl,I1.kept (t':=s1.toks) λb o e=>aO _ e,E8 a _,⟨_,bu _ rfl,rfl,rfl⟩,λb hb=>?_,q⟩;have e:b=s1.heap.objs.size:=by simpa using hb
 subst e;exact I1.Fe (aP _) (I1.hok.fresh (aP _))
def J7{tl:TE}(hl:PE X l tl):PI X tg l (UD X.K tl):=by
 intro pins s σ H R I h;refine j3 (hl pins s σ H _ I h) λv s1 ⟨x,H1,I1,r1,q1⟩=>?_;obtain⟨a,e,⟨xs,hq⟩,q⟩:=q1;subst e
 cases r1
 obtain⟨its,rv,p,hz⟩:=I1.tuple hq;refine wpAny_pyIter_tuple (show s1.heap.IsTuple a its.toArray from p) ?_;refine⟨s1.heap.objs.size,[s1.heap.objs.size],_,_,H1,rfl,I1.kept (t':=s1.toks) λb o e=>aO _ e,BD a _,⟨_,bu _ rfl,rfl,rfl⟩,λb hb=>?_,q⟩;have e:b=s1.heap.objs.size:=by simpa using hb
 subst e;exact I1.Fe (aP _) (I1.hok.fresh (aP _))
def Aa{H:Hp}{s:aC}{R:It->Hp->Prop}{E:af->aC->Prop}{lo hi:Int}{t v:Tok}{tk:Nat}(I:Inv X pins σ H s)(h1:-(2 ^ 62)<=lo)(h2:lo<2 ^ 62)(h3:-(2 ^ 62)<=hi)(h4:hi<2 ^ 62)
  (q:R (SA lo (hi-lo).toNat) H):wpAny (model X.prog X.w) X.A (pyIter (.ref s.heap.objs.size)) (Vp X pins σ tg R) E { s with heap:=s.heap.push { cls:=.type "range",data:=.fields #[.int lo t,.int hi u,.int 1 v]},toks:=tk }:=by
 refine wpAny_pyIter_range (IsRange.new ..) (small_one h1 h2 h3 h4) ?_;have I1:Inv X pins σ H { s with heap:=s.heap.push { cls:=.type "range",data:=.fields #[.int lo t,.int hi u,.int 1 v]},toks:=tk }:=I.kept λb o e=>aO _ e;refine⟨(s.heap.push { cls:=.type "range",data:=.fields #[.int lo t,.int hi u,.int 1 v]}).objs.size,[(s.heap.push { cls:=.type "range",data:=.fields #[.int lo t,.int hi u,.int 1 v]}).objs.size],_,_,H,rfl,
  I1.kept (t':=tk) λb o e=>aO _ e,BI _ lo (hi-lo).toNat,?_,λb hb=>?_,q⟩
 ·have e1:lo+((0:Nat):Int) * 1=lo:=by simp
  have e2:(((hi-lo).toNat:Nat):Int)-((0:Nat):Int)=Builtin.Range.rangeSize lo hi 1:=by rw[rangeSize_one];split<;>lia
  skip
  rw[e1,e2];exact bu _ rfl
 ·have e:b=(s.heap.push { cls:=.type "range",data:=.fields #[.int lo t,.int hi u,.int 1 v]}).objs.size:=by simpa using hb
  subst e;exact I1.Fe (aP _) (I1.hok.fresh (aP _))
abbrev pK (ta:TA):TI:=λσ H R=>ta σ H λvs H1=>∃j:Int,vs=[.int j]/\-(2 ^ 62)<=j/\j<2 ^ 62/\R (SA 0 j.toNat) H1
abbrev ng (ta:TA):TI:=λσ H R=>ta σ H λvs H1=>∃i j:Int,vs=[.int i,.int j]/\(-(2 ^ 62)<=i/\i<2 ^ 62/\-(2 ^ 62)<=j/\j<2 ^ 62)/\R (SA i (j-i).toNat) H1
def Fy{a:aE}{ta:TA}{p:Pos}(hg:Gl X "range")(hm:X.mg "range" = none)(ha:PA X [a] ta)(hs:starEach [a] X.env=[(false,eval a X.env)]:=by rfl):PI X tg (.Call (.Name "range" p) [a] [] pos) (pK ta):=by
 intro pins s σ H R I h;refine Call_ (yZ I hg hm boot_range (e9 (j3 (ha pos pins s σ H _ I h) λus s1 ⟨vs,H1,I1,r1,q1⟩=>?_) hs rfl));obtain⟨j,e,q1,q2,q⟩:=q1;subst e
 cases r1 with
 | cons r rr=>
  cases rr
  obtain⟨t,rfl⟩:=r;exact call_range_1 (Aa I1 () () q1 q2 (by simpa using q))
def FJ{a b:aE}{ta:TA}{p:Pos}(hg:Gl X "range")(hm:X.mg "range" = none)(ha:PA X [a,b] ta)(hs:starEach [a,b] X.env=[(false,eval a X.env),(false,eval b X.env)]:=by rfl)(hs2:starEach [b] X.env=[(false,eval b X.env)]:=by rfl) :
  PI X tg (.Call (.Name "range" p) [a,b] [] pos) (ng ta):=by
 intro pins s σ H R I h;refine Call_ (yZ I hg hm boot_range (e9 (j3 (ha pos pins s σ H _ I h) λus s1 ⟨vs,H1,I1,r1,q1⟩=>?_) (by rw[hs,hs2]) (by rw[hs2];rfl)));obtain⟨i,j,e,⟨q1,q2,q3,q4⟩,q⟩:=q1;subst e
 cases r1 with
 | cons r rr=>
  cases rr with
  | cons r' rr=>
   cases rr
   obtain⟨t,rfl⟩:=r;obtain⟨t',rfl⟩:=r';exact call_range_2 (Aa I1 q1 q2 q3 q4 q)
abbrev UO (wi:TI)(g:TG)(tb:TS):TS:=λD σ H=>wi σ H λJ H1=>∃W:Nat->Nat->St->Hp->Prop,(∃m,W 0 m σ H1)/\∀i m σ H,W i m σ H ->
 (J.stop i H/\D.nx σ H)\/(J.go i H/\∃N:St->Hp->Prop,(∀σ' H',N σ' H'->∃m',m'<m/\W (i+1) m' σ' H')/\∀x H',J.yld i H x H'->g x σ H' λσ2 H2=>tb { D with nx:=N,ct:=N,bk:=D.nx } σ2 H2)
abbrev rA (fp:ar)(h:aq):bj:=fp.filterMap λb=>(h.get? b).map λo=>(b,o)
def kh{fp:ar}{h:aq}{b:ak}(hb:b∈fp)(e:h.get? b=some o):(b,o)∈rA fp h:=List.mem_filterMap.mpr ⟨b,hb,by rw[e];rfl⟩
def FZ{fp:ar}{h:aq}{p:ak×Obj}(hp:p∈rA fp h):p.1∈fp/\h.get? p.1=some p.2:=by
 obtain⟨b,hb,e⟩:=List.mem_filterMap.mp hp
 cases q:h.get? b with
 | none=>rw[q]at e;cases e
 | some o=>
  rw[q]at e;have e':(b,o)=p:=aR e;subst e';exact⟨hb,q⟩
def Inv.pinned{H:Hp}{s:aC}{fp:ar}(I:Inv X pins σ H s)(hf:∀b∈fp,qx X pins H b)(ho:∀b∈fp,∃o,s.heap.get? b=some o/\∀v,o.data≠.cell v):Inv X (pins++rA fp s.heap) σ H s:=
 I.C9 λp hp=>(bh.mp hp).elim (λz=>I.pin p (aX _ z)) λz=>by
  obtain⟨hb,e⟩:=FZ z;obtain⟨f0,f1,f2,_⟩:=hf p.1 hb;obtain⟨o,e',d⟩:=ho p.1 hb;rw[e]at e';cases e';exact⟨e,f0,f1,f2,d⟩
def Inv.nY{pl:bj}{H:Hp}(I:Inv X (pins++pl) σ H s):Inv X pins σ H s:=I.C9 λp hp=>I.pin p (aX _ (bP _ hp))
def NX{iter:aE}{wi:TI}{g:TG}{tb:TS}(hp:PassesOwn (model X.prog X.w) X.A X.env X.xe)(hc:X.calm=true)(hi:PI X tg iter wi)(hg:PG X tg g)(hb:zw X body tb)
  (hs:∀x,foldedSetIterable iter X.env x=pure x:=by intro _;rfl):PS X (.For tg iter body [] pos) (UO wi g tb):=by
 kcj_m;refine wpAny_For (j3 (hi pins s σ H _ I h) λv s1 h1=>j3 h1 λitv s2 h2=>?_) hs;obtain⟨it,fp,tn,J,H2,e,I2,T,st2,f2,W,⟨m0,w0⟩,turn⟩:=h2;subst e;have stat:∀{H':Hp},(∀b∈fp,H' b=none)->∀b∈fp,qx X pins H' b:=λhn b hb=>⟨hn b hb,(f2 b hb).2⟩;refine codeAny_forLoop_any (λn s'=>∃i σ' H',Inv X pins σ' H' s'/\tn i s'.heap/\(∀b∈fp,H' b=none)/\W i n σ' H') ?_ m0 ⟨0,σ,H2,I2,st2,λb hb=>(f2 b hb).1,w0⟩;rintro n s3 ⟨i,σ3,H3,I3,st3,fr3,w3⟩
 rcases turn i n σ3 H3 w3 with⟨stop,qn⟩|⟨go,N,hN,step⟩
 ·refine dQ hp (j3 (T.done X rfl rfl rfl hc i pins s3 σ3 H3 X.xe I3 (stat fr3) st3 stop) λr s4 ⟨hr,I4⟩=>?_);subst hr;exact gQ ⟨σ3,H3,I4,qn⟩
 ·refine dQ hp (j3 (T.item X rfl rfl rfl hc i pins s3 σ3 H3 X.xe I3 (stat fr3) st3 go) λr s4 ⟨u,hr,h4⟩=>?_);subst hr;refine dQ hp (j3 h4 λ_ s5 ⟨x,H5,I5,r5,y5,st5,fr5⟩=>?_);have I5':=I5.pinned (stat fr5) (T.obj _ _ st5);refine dQ hp (j3 (hg _ s5 σ3 H5 x u _ I5' r5 (step x H5 y5)) λ_ s6 ⟨σ6,H6,I6,q6⟩=>?_);refine dQ hp (j3 (hb _ s6 σ6 H6 _ I6 q6) λf s7 q7=>?_);have again:∀{σ7:St} {H7:Hp},Inv X (pins++rA fp s5.heap) σ7 H7 s7->N σ7 H7->∃m,m<n/\∃i σ' H',Inv X pins σ' H' s7/\tn i s7.heap/\(∀b∈fp,H' b=none)/\W i m σ' H':=λ{σ7 H7} I7 n7=>by
   obtain⟨m',hm,w7⟩:=hN σ7 H7 n7;refine⟨m',hm,i+1,σ7,H7,I7.nY,T.keep _ _ _ st5 λb hb o e=>(I7.pin (b,o) (aX _ (aX _ (kh hb e)))).1,λb hb=>?_,w7⟩;obtain⟨o,e,d⟩:=T.obj _ _ st5 b hb;exact(I7.pin (b,o) (aX _ (aX _ (kh hb e)))).2.1
  cases f with
  | next=>obtain⟨σ7,H7,I7,n7⟩:=q7;exact again I7 n7
  | cont=>obtain⟨σ7,H7,I7,n7⟩:=q7;exact again I7 n7
  | brk=>obtain⟨σ7,H7,I7,q7⟩:=q7;exact⟨σ7,H7,I7.nY,q7⟩
  | ret v=>obtain⟨x7,σ7,H7,I7,r7,q7⟩:=q7;exact⟨x7,σ7,H7,I7.nY,r7,q7⟩
end
def qu{c:TT}{tb:TS}{D:Ends}{H:Hp}(Pv:St->Hp->Prop)(μ:St->Hp->Nat)(h0:Pv σ H)
  (hs:∀σ H,Pv σ H->c σ H λb H1=>if b=true then tb { D with nx:=λσ' H'=>Pv σ' H'/\μ σ' H'<μ σ H,ct:=λσ' H'=>Pv σ' H'/\μ σ' H'<μ σ H,bk:=D.nx } σ H1 else D.nx σ H1)
  (mono:∀σ H Q Q',(∀b H1,Q b H1->Q' b H1)->c σ H Q->c σ H Q'):Io c tb D σ H:=by
 refine⟨λm σ H=>m=μ σ H/\Pv σ H,⟨_,rfl,h0⟩,?_⟩;rintro m σ H ⟨rfl,p⟩;refine mono σ H _ _ (λb H1 q=>?_) (hs σ H p)
 cases b with
 | true=>exact⟨_,λσ' H' ⟨p',l⟩=>⟨_,l,rfl,p'⟩,q⟩
 | false=>exact q
meta abbrev R2:=V->V->Hp->VK->Prop
abbrev nq (X:Cx)(f:af->af->Sem af)(r:R2):Prop:=
 ∀(pins:bj) (s:aC) (σ:St) (H:Hp) (x y:V) (v u:af) (Q:VK),Inv X pins σ H s->RelV x v->RelV y u->r x y H Q ->
  wpAny (model X.prog X.w) X.A (f v u) (EP X pins σ Q) X.xe s
abbrev SY (X:Cx)(f:af->Sem af)(r:V->Hp->VK->Prop):Prop:=
 ∀(pins:bj) (s:aC) (σ:St) (H:Hp) (x:V) (v:af) (Q:VK),Inv X pins σ H s->RelV x v->r x H Q ->
  wpAny (model X.prog X.w) X.A (f v) (EP X pins σ Q) X.xe s
abbrev jE (X:Cx)(f:af)(r:List V->Hp->VK->Prop):Prop:=
 ∀(pins:bj) (s:aC) (σ:St) (H:Hp) (xs:List V) (us:ap) (Q:VK),Inv X pins σ H s->Vals xs us->r xs H Q ->
  wpAny (model X.prog X.w) X.A (call f us) (EP X pins σ Q) X.xe s
abbrev Uk (X:Cx)(r:V->Hp->(Bool->Hp->Prop)->Prop):Prop:=
 ∀(pins:bj) (s:aC) (σ:St) (H:Hp) (x:V) (v:af) (Q:Bool->Hp->Prop),Inv X pins σ H s->RelV x v->r x H Q ->
  wpAny (model X.prog X.w) X.A (truthy v) (TP X pins σ Q) X.xe s
abbrev Q6 (r:R2)(ta tb:TE):TE:=λσ H Q=>ta σ H λx H1=>tb σ H1 λy H2=>r x y H2 Q
abbrev Vo (r:V->Hp->VK->Prop)(ta:TE):TE:=λσ H Q=>ta σ H λx H1=>r x H1 Q
abbrev rI (C:Int->Int->Prop)(g:Int->Int->V):R2:=λx y H Q=>∃i j,x=.int i/\y=.int j/\C i j/\Q (g i j) H
abbrev OG (g:Int->Int->V):R2:=λx y H Q=>∃i j,x=.int i/\y=.int j/\Q (g i j) H
abbrev rU (g:Int->V):V->Hp->VK->Prop:=λx H Q=>∃i,x=.int i/\Q (g i) H
section
variable {X:Cx}{a b:aE}{ta tb:TE}{pos:Pos}
def O4(ha:PE X a ta)(hb:PE X b tb){H:Hp}{R:V->V->Hp->Prop}(I:Inv X pins σ H s)
  (h:ta σ H λx H1=>tb σ H1 λy H2=>R x y H2) {Q:af->aC->Prop} {f:af->af->Sem af}
  (hf:∀v u s2 x y H2,Inv X pins σ H2 s2->RelV x v->RelV y u->R x y H2->wpAny (model X.prog X.w) X.A (f v u) Q X.xe s2) :
  wpAny (model X.prog X.w) X.A (eval a X.env) (λv s₁=>wpAny (model X.prog X.w) X.A (eval b X.env) (λu s₂=>wpAny (model X.prog X.w) X.A (f v u) Q X.xe s₂) X.xe s₁) X.xe s:=by
 refine j3 (ha pins s σ H _ I h) λv s1 ⟨x,H1,I1,r1,q1⟩=>?_;refine j3 (hb pins s1 σ H1 _ I1 q1) λu s2 ⟨y,H2,I2,r2,q2⟩=>?_;exact hf v u s2 x y H2 I2 r1 r2 q2
def SD{r:R2}(ho:nq X (binaryOp op) r)(ha:PE X a ta)(hb:PE X b tb):PE X (.BinOp a op b pos) (Q6 r ta tb):=by
 x_go;exact wpAny_BinOp (O4 ha hb I h λv u s2 x y H2 I2 rx ry q=>ho pins s2 σ H2 x y v u Q I2 rx ry q)
def Ie{r:V->Hp->VK->Prop}(ho:SY X (unaryOp op) r)(ha:PE X a ta):PE X (.UnaryOp op a pos) (Vo r ta):=by
 x_go;exact UnaryOp_ (j3 (ha pins s σ H _ I h) λv s1 ⟨x,H1,I1,r1,q1⟩=>ho pins s1 σ H1 x v Q I1 r1 q1)
def Th{f:af->af->Sem af}{C:Int->Int->Prop}{g:Int->Int->Int}
  (rule:∀(i j:Int) (t u:Tok) (s:aC) (Q:af->aC->Prop) (E:af->aC->Prop),C i j->Q (.int (g i j) s.toks) { s with toks:=s.toks+1 }->wpAny (model X.prog X.w) X.A (f (.int i t) (.int j u)) Q E s) :
  nq X f (rI C λi j=>.int (g i j)):=by
 kd_p;obtain⟨i,j,rfl,rfl,hc,q⟩:=h;ksr_p;obtain⟨t',rfl⟩:=ry;exact rule i j t t' s _ _ hc ⟨.int (g i j),H,I.tok _,⟨_,rfl⟩,q⟩
def Rb{f:af->af->Sem af}{g:Int->Int->Int}
  (rule:∀(i j:Int) (t u:Tok) (s:aC) (Q:af->aC->Prop) (E:af->aC->Prop),Q (.int (g i j) s.toks) { s with toks:=s.toks+1 }->wpAny (model X.prog X.w) X.A (f (.int i t) (.int j u)) Q E s) :
  nq X f (OG λi j=>.int (g i j)):=by
 kd_p;obtain⟨i,j,rfl,rfl,q⟩:=h;ksr_p;obtain⟨t',rfl⟩:=ry;exact rule i j t t' s _ _ ⟨.int (g i j),H,I.tok _,⟨_,rfl⟩,q⟩
def Od{f:af->af->Sem af}{g:Int->Int->Bool}
  (rule:∀(i j:Int) (t u:Tok) (s:aC) (Q:af->aC->Prop) (E:af->aC->Prop),Q (.bool (g i j)) s->wpAny (model X.prog X.w) X.A (f (.int i t) (.int j u)) Q E s) :
  nq X f (OG λi j=>.bl (g i j)):=by
 kd_p;obtain⟨i,j,rfl,rfl,q⟩:=h;ksr_p;obtain⟨t',rfl⟩:=ry;exact rule i j t t' s _ _ ⟨.bl (g i j),H,I,rfl,q⟩
abbrev TY (i j:Int):Prop:=0<=j/\j<=1000000/\i.natAbs<2 ^ 64
abbrev Lp (i j:Int):Prop:=(-(2 ^ 64)<i/\i<2 ^ 64)\/(-(2 ^ 64)<j/\j<2 ^ 64)
def Lp.ok{i j:Int}(h:Lp i j):IntMulOk i j:=by
 rcases h with⟨h1,h2⟩|⟨h1,h2⟩
 ·exact .of_left (intBits_le_64 h1 h2)
 ·exact .of_right (intBits_le_64 h1 h2)
def NH:nq X (binaryOp .Add) (OG λi j=>.int (i+j)):=Rb λ_ _ _ _ _ _ _ q=>add_int q
def NW:nq X (binaryOp .Sub) (OG λi j=>.int (i-j)):=Rb λ_ _ _ _ _ _ _ q=>sub_int q
def Pn:nq X (binaryOp .Mult) (rI Lp λi j=>.int (i * j)):=Th λ_ _ _ _ _ _ _ hc q=>mul_int q hc.ok
def NG:nq X (binaryOp .Mod) (rI (λ_ j=>0<j) λi j=>.int (i % j)):=Th λi j _ _ _ _ _ hc q=>by
 have h1:(0:Int)<j:=hc;exact mod_int' () (by rw[Int.fmod_eq_emod_of_nonneg i ()];exact q)
def Qs:nq X (binaryOp .Pow) (rI TY λi j=>.int (i ^ j.toNat)):=Th λ_ _ _ _ _ _ _ hc q=>pow_int_small hc.1 hc.2.1 hc.2.2 q
def VC{f:af->Sem af}{g:Int->Int}
  (rule:∀(i:Int) (t:Tok) (s:aC) (Q:af->aC->Prop) (E:af->aC->Prop),Q (.int (g i) s.toks) { s with toks:=s.toks+1 }->wpAny (model X.prog X.w) X.A (f (.int i t)) Q E s) :
  SY X f (rU λi=>.int (g i)):=by
 intro pins s σ H x v Q I rx h;obtain⟨i,rfl,q⟩:=h;ksr_p;exact rule i t s _ _ ⟨.int (g i),H,I.tok _,⟨_,rfl⟩,q⟩
def BJ:SY X (unaryOp .USub) (rU λi=>.int (-i)):=VC λ_ _ _ _ _ q=>neg_int q
end
section
variable {X:Cx}{a b c:aE}{ta tb tc:TE}{pos:Pos}
def Qo{H:Hp}{Q:VK}{k:Bool}(I:Inv X pins σ H s)(q:Q (.bl k) H)(e:k=k'):EP X pins σ Q (.bool k') s:=by
 subst e;exact⟨.bl k,H,I,rfl,q⟩
def Ra:nq X (compareOp .Lt) (OG λi j=>.bl (decide (i<j))):=Od λ_ _ _ _ _ _ _ q=>lt_int q
def RI:nq X (compareOp .LtE) (OG λi j=>.bl (decide (i<=j))):=Od λ_ _ _ _ _ _ _ q=>le_int q
def Rj:nq X (compareOp .Gt) (OG λi j=>.bl (decide (j<i))):=Od λ_ _ _ _ _ _ _ q=>gt_int q
def NV:nq X (compareOp .Is) (λx y H Q=>y=.non/\Q (.bl (decide (x=.non))) H):=by
 kd_p;obtain⟨rfl,q⟩:=h
 cases ry
 refine is_none_gen (Qo I q ?_)
 cases x<;>first
  | (cases rx;rfl)
  | (obtain⟨t,rfl⟩:=rx;rfl)
def Kl(b:aE)(h:op≠.In:=by decide)(h2:op≠.NotIn:=by decide):behindInMarks op b=false:=by
 have e1:(op == CmpOp.In)=false:=by cases op<;>first|rfl|exact absurd rfl h
 have e2:(op == CmpOp.NotIn)=false:=by cases op<;>first|rfl|exact absurd rfl h2
 cases b<;>simp[behindInMarks,e1,e2]
def K5{op:CmpOp}{r:R2}(ho:nq X (compareOp op) r)(ha:PE X a ta)(hb:PE X b tb)(hm:behindInMarks op b=false):PE X (.Compare a [op] [b] pos) (Q6 r ta tb):=by
 x_go;exact wpAny_Compare1 (O4 ha hb I h λv u s2 x y H2 I2 rx ry q=>ho pins s2 σ H2 x y v u Q I2 rx ry q) hm
abbrev Ro (t:TE):TT:=λσ H Q=>t σ H λx H'=>∃k,x=.bl k/\Q k H'
def KQ{op:CmpOp}{r:R2}(ho:nq X (compareOp op) r)(ha:PE X a ta)(hb:PE X b tb)(hm:behindInMarks op b=false):PT X (.Compare a [op] [b] pos) (Ro (Q6 r ta tb)):=by
 x_go;refine wpAny_isTrue_Compare1 (j3 (ha pins s σ H _ I h) λv s1 ⟨x,H1,I1,r1,q1⟩=>j3 (hb pins s1 σ H1 _ I1 q1) λu s2 ⟨y,H2,I2,r2,q2⟩=>
  j3 (ho pins s2 σ H2 x y v u _ I2 r1 r2 q2) λc s3 ⟨z,H3,I3,r3,k,e,q3⟩=>?_) hm
 subst e
 cases r3
 exact dS ⟨H3,I3,q3⟩
abbrev Gq (r r':R2)(ta tb tc:TE):TE:=λσ H Q=>ta σ H λx H1=>tb σ H1 λy H2=>r x y H2 λz H3=>∃k,z=.bl k /\
 (if k=true then tc σ H3 λw' H4=>r' y w' H4 Q else Q (.bl false) H3)
def Jo{r r':R2}(ho:nq X (compareOp op) r)(ho':nq X (compareOp op') r')(ha:PE X a ta)(hb:PE X b tb)(hc:PE X c tc)
  (hm:lastMarks [op,op'] [b,c]=false:=by with_unfolding_all rfl):PE X (.Compare a [op,op'] [b,c] pos) (Gq r r' ta tb tc):=by
 x_go;refine Compare_chain (j3 (ha pins s σ H _ I h) λv s1 ⟨x,H1,I1,r1,q1⟩=>chain_link (j3 (hb pins s1 σ H1 _ I1 q1) λu s2 ⟨y,H2,I2,r2,q2⟩=>
  j3 (ho pins s2 σ H2 x y v u _ I2 r1 r2 q2) λd s3 ⟨z,H3,I3,r3,k,e,q3⟩=>?_)) hm
 subst e
 cases r3
 refine dS ?_
 cases k with
 | false=>exact ite_ff ⟨.bl false,H3,I3,rfl,q3⟩
 | true=>exact ite_tt (chain_last (j3 (hc pins s3 σ H3 _ I3 q3) λw' s4 ⟨z',H4,I4,r4,q4⟩=>ho' pins s4 σ H4 y z' u w' Q I4 r2 r4 q4))
abbrev NL (K:au)(x:V)(H:Hp)(k:Bool):Prop:=
 match x with
 | .non=>k=false
 | .bl b=>k=b
 | .int i=>k=(i != 0)
 | .str y=>y.length<=sizeLine/\k=((y.length:Int) != 0)
 | .byt y=>y.size<=sizeLine/\k=((y.size:Int) != 0)
 | .ref p=>(∃xs,mw K H p xs/\k=!xs.isEmpty)\/(∃xs,mz K H p xs/\k=!xs.isEmpty)\/∃kvs,H p=some (.dK kvs)/\k=!kvs.isEmpty
 | _=>False
def BY{κ:Type}{kvs:List (κ×V)}{vs:List (κ×af)}(r:KV kvs vs):(!vs.isEmpty)=!kvs.isEmpty:=by
 cases r<;>rfl
def vO{xs:List V}{its:ap}(r:Vals xs its):(!its.toArray.isEmpty)=!xs.isEmpty:=by
 cases r<;>simp
def qy:(sizeLine:Nat)<2 ^ 63:=by rw[cV];decide
def O5:Uk X (λx H Q=>∃k,NL X.K x H k/\Q k H):=by
 intro pins s σ H x v Q I rx h;obtain⟨k,e,q⟩:=h;have hl:=qy;have hs:sizeLine=16777216:=cV
 cases x with
 | non=>
  cases rx
  have e':k=false:=e;subst e';exact truthy_none ⟨H,I,q⟩
 | bl b=>
  cases rx
  have e':k=b:=e;subst e';exact dS ⟨H,I,q⟩
 | int i=>
  ksr_p;have e':k=(i != 0):=e;subst e';exact PySem.P.truthy_int ⟨H,I,q⟩
 | str y=>
  ksr_p;obtain⟨hy,e'⟩:y.length<=sizeLine/\k=((y.length:Int) != 0):=e;subst e';exact PySem.P.truthy_str () ⟨H,I.tok _,q⟩
 | byt y=>
  ksr_p;obtain⟨hy,e'⟩:y.size<=sizeLine/\k=((y.size:Int) != 0):=e;subst e';exact PySem.W.truthy_bytes () ⟨H,I.tok _,q⟩
 | ref p=>
  cases rx
  have e':(∃xs,mw X.K H p xs/\k=!xs.isEmpty)\/(∃xs,mz X.K H p xs/\k=!xs.isEmpty)\/∃kvs,H p=some (.dK kvs)/\k=!kvs.isEmpty:=e
  rcases e' with⟨xs,hx,e'⟩|⟨xs,hx,e'⟩|⟨kvs,hx,e'⟩
  ·subst e';obtain⟨its,r,pl,hz⟩:=I.list hx;have hlen:=r.length;exact wpAny_truthy_list pl.isList (by dsimp[aQ];lia) ⟨H,I.tok _,by rw[vO r];exact q⟩
  ·subst e';obtain⟨its,r,pl,hz⟩:=I.tuple hx;have hlen:=r.length;exact truthy_tuple pl (by dsimp[aQ];lia) ⟨H,I.tok _,by rw[vO r];exact q⟩
  ·subst e';obtain⟨hz,hS,vs,r,m⟩:kvs.length<=sizeLine/\(p == sysModules)=false/\∃vs,KV kvs vs/\s.heap.DictOf (j9 X.prog X.w) p vs:=I.hok p _ hx;have hlen:kvs.length=vs.length:=iD r;exact wpAny_truthy_dict hS m () ⟨H,I.tok _,by rw[BY r];exact q⟩
 | _=>exact(show False from e).elim
def I0(ha:PE X a ta)(he:∀whole,isTrue a X.env whole=(do let v <- whole;standAt a.pos;holding [v] (truthy v))) :
  PT X a (λσ H Q=>ta σ H λx H'=>∃k,NL X.K x H' k/\Q k H'):=by
 x_go;exact isTrue_plain (j3 (ha pins s σ H _ I h) λv s1 ⟨x,H1,I1,r1,q1⟩=>O5 pins s1 σ H1 x v Q I1 r1 q1) (he _)
def B5:nq X (binaryOp .Add) (λx y H Q=>∃i j,x=.str i/\y=.str j/\i.length+j.length<=sizeLine/\Q (.str (i++j)) H):=by
 kd_p;obtain⟨i,j,rfl,rfl,hz,q⟩:=h;ksr_p;obtain⟨t',rfl⟩:=ry;exact add_str (λt' tk=>⟨.str (i++j),H,I.tok _,⟨_,rfl⟩,q⟩) hz
def vals1{x:V}(r:Vals [x] us):∃u,us=[u]/\RelV x u:=by
 cases r with
 | cons r1 r2=>cases r2;exact⟨_,rfl,r1⟩
def vals2{x:V}(r:Vals [x,y] us):∃u w',us=[u,w']/\RelV x u/\RelV y w':=by
 cases r with
 | cons r1 r2=>
  cases r2 with
  | cons r3 r4=>cases r4;exact⟨_,_,rfl,r1,r3⟩
def GP:jE X (.builtin "abs") (λxs H Q=>∃i,xs=[.int i]/\Q (.int (if i<0 then -i else i)) H):=by
 k_ne;obtain⟨i,rfl,q⟩:=h;obtain⟨u,rfl,t,rfl⟩:=vals1 r;exact call_abs_int λu tk=>⟨.int (if i<0 then -i else i),H,I.tok _,⟨_,rfl⟩,q⟩
def FL(hc:X.calm=true):jE X (.builtin "max") (λxs H Q=>∃i j,xs=[.int i,.int j]/\Q (.int (if j>i then j else i)) H):=by
 k_ne;obtain⟨i,j,rfl,q⟩:=h;obtain⟨u,w',rfl,⟨t,rfl⟩,⟨t',rfl⟩⟩:=vals2 r;refine max_two_ints (I.ok.hd hc) λh' tk k=>⟨_,H,I.kept k,?_,q⟩;by_cases hj:j>i
 ·rw[aN hj,aN hj];exact⟨_,rfl⟩
 ·rw[aM hj,aM hj];exact⟨_,rfl⟩
def E5(hc:X.calm=true):jE X (.builtin "min") (λxs H Q=>∃i j,xs=[.int i,.int j]/\Q (.int (if j<i then j else i)) H):=by
 k_ne;obtain⟨i,j,rfl,q⟩:=h;obtain⟨u,w',rfl,⟨t,rfl⟩,⟨t',rfl⟩⟩:=vals2 r;refine min_two_ints (I.ok.hd hc) λh' tk k=>⟨_,H,I.kept k,?_,q⟩;by_cases hj:j<i
 ·rw[aN hj,aN hj];exact⟨_,rfl⟩
 ·rw[aM hj,aM hj];exact⟨_,rfl⟩
abbrev Uz (K:au)(x:V)(H:Hp)(n:Nat):Prop:=
 match x with
 | .str y=>y.length<=sizeLine/\n=y.length
 | .byt y=>y.size<=sizeLine/\n=y.size
 | .ref p=>(∃xs,mw K H p xs/\n=xs.length)\/∃xs,mz K H p xs/\n=xs.length
 | _=>False
def JV:jE X (.builtin "len") (λxs H Q=>∃x n,xs=[x]/\Uz X.K x H n/\Q (.int n) H):=by
 k_ne;obtain⟨x,n,rfl,e,q⟩:=h;gp_on;have hl:=qy;have hs:sizeLine=16777216:=cV
 cases x with
 | str y=>
  ksr_p;obtain⟨hy,e'⟩:y.length<=sizeLine/\n=y.length:=e;subst e';exact len_str () ⟨.int _,H,I.tok _,⟨_,rfl⟩,q⟩
 | byt y=>
  ksr_p;obtain⟨hy,e'⟩:y.size<=sizeLine/\n=y.size:=e;subst e';exact PySem.W.len_bytes () ⟨.int _,H,I.tok _,⟨_,rfl⟩,q⟩
 | ref p=>
  cases rx
  have e':(∃xs,mw X.K H p xs/\n=xs.length)\/∃xs,mz X.K H p xs/\n=xs.length:=e
  rcases e' with⟨xs,hx,e'⟩|⟨xs,hx,e'⟩
  ·subst e';obtain⟨its,r',pl,hz⟩:=I.list hx;have hlen:=r'.length;exact Calls.call_len_list pl.isList (by dsimp[aQ];lia) ⟨.int xs.length,H,I.tok _,⟨_,by dsimp[aQ];rw[hlen]⟩,q⟩
  ·subst e';obtain⟨its,r',pl,hz⟩:=I.tuple hx;have hlen:=r'.length;exact len_tuple pl (by dsimp[aQ];lia) ⟨.int xs.length,H,I.tok _,⟨_,by dsimp[aQ];rw[hlen]⟩,q⟩
 | _=>exact(show False from e).elim
end
structure ObjM (h:aq)(x dx C:ak)(mA:Str->ba):Prop where
 obj:h.get? x=some (PySem.W.instObj C dx)
 ns:h.Ns1 dx mA
 ne:dx≠x
def xx.some_of{v:V}(r:xx (some v) o):∃u,o=some u/\RelV v u:=by
 cases o with
 | none=>exact(show False from r).elim
 | some u=>exact⟨u,rfl,r⟩
structure Cls (K:au)(C:ak):Prop where
 pg:PySem.W.plainGet K C Str.empty=true
 hd:PySem.W.hasDictIn K C=true
 po:PySem.W.plainOver K C=true
 sa:PySem.W.findIn K (.ref C) "__setattr__" = some (some (.builtin "object.__setattr__"))
structure Con (K:au)(C:ak)(f:Str)(v:V)(u:af):Prop where
 at_:PySem.W.findIn K (.ref C) f=some (some u)
 rel:RelV v u
 get:PySem.W.specialIn K u "__get__" = some none
 cp:PySem.W.copiedNames.contains f=false
structure Meth (K:au)(C:ak)(m:Str)(f:ak):Prop where
 at_:PySem.W.findIn K (.ref C) m=some (some (.ref f))
 fn:PySem.W.isFn K (.ref f)=true
 kp:PySem.W.keepIn K (.ref f)=true
section
variable {H:Hp}
inductive TyOf (K:au) (H:Hp):V->af->Prop where
 | non:TyOf K H .non (.type "NoneType")
 | bl (x:Bool):TyOf K H (.bl x) (.type "bool")
 | int (i:Int):TyOf K H (.int i) (.type "int")
 | str (x:Str):TyOf K H (.str x) (.type "str")
 | flt (x:UInt64):TyOf K H (.flt x) (.type "float")
 | lst {a:ak} {xs:List V} (e:H a=some (.lst xs)):TyOf K H (.ref a) (.type "list")
 | frz {a:ak} {o:Obj} {xs:List V} (e:H a=some (.frz o (.lst xs))):TyOf K H (.ref a) (.type "list")
 | tup {a:ak} {xs:List V} (e:H a=some (.tup xs)):TyOf K H (.ref a) (.type "tuple")
 | dK {a:ak} {kvs:List (Key×V)} (e:H a=some (.dK kvs)):TyOf K H (.ref a) (.type "dict")
 | dT {a:ak} {kvs:List (List Key×V)} (e:H a=some (.dT kvs)):TyOf K H (.ref a) (.type "dict")
 | ins {a C dx:ak} {fs:List (Str×V)} (e:H a=some (.ins C dx fs)) (cl:Cls K C) (ha:PySem.W.findIn K (.ref C) "__class__" = some (some (.builtin "object.__class__")))
   (hn:PySem.W.specialIn K (.builtin "object.__class__") "__get__" = some (some (.builtin "getset_descriptor.__get__"))) (htk:PySem.W.takesIn K (.builtin "object.__class__")=some true)
   (hm:PySem.W.mroIn K C (.type "object")=some true):TyOf K H (.ref a) (.ref C)
end
structure Room (k:Nat)(A:aA):Prop where
 hd:A.handled=none
 dp:A.depth+3 * k+5<recursionLimit
 un:A.units+16 * k+200<cLine
def Room.mono{k:Nat}{A:aA}(r:Room k A)(h:j<=k):Room j A:=⟨r.hd,by have:=r.dp;lia,by have:=r.un;lia⟩
def Room.deeper{k:Nat}{A:aA}(r:Room (k+1) A)(env:Env):Room k (A.deeper env):=
 ⟨r.hd,by have:=r.dp;show A.depth+1+3 * k+5<_;lia,by have:=r.un;show A.units+3+16 * k+200<_;lia⟩
def Room.depth{k:Nat}{A:aA}(r:Room k A):A.depth<recursionLimit:=by have:=r.dp;lia
def Room.units{k:Nat}{A:aA}(r:Room k A):A.units+64<cLine:=by have:=r.un;lia
abbrev UT:TA:=λ_ H Q=>Q [] H
abbrev Q9 (ta:TE)(tr:TA):TA:=λσ H Q=>ta σ H λx H1=>tr σ H1 λxs H2=>Q (x::xs) H2
section
variable {X:Cx}{e:aE}{es:List aE}{te:TE}{t:TA}{pos:Pos}
def vM:PA X [] UT:=λ_ _ _ _ H Q I h=>Calls.spliced_nil ⟨[],H,I,.nil,h⟩
def qP(ha:PE X e te)(hr:PA X es t)(hs:starEach (e::es) X.env=(false,eval e X.env)::starEach es X.env:=by rfl):PA X (e::es) (Q9 te t):=by
 intro pos pins s σ H Q I h;rw[hs]
 skip
 refine Calls.spliced_cons (j3 (ha pins s σ H _ I h) λu s1 ⟨x,H1,I1,r1,q1⟩=>?_);exact j3 (hr pos pins s1 σ H1 _ I1 q1) λus s2 ⟨xs,H2,I2,r2,q2⟩=>⟨x::xs,H2,I2,.cons r1 r2,q2⟩
abbrev Tp (t:TA):TE:=λσ H Q=>t σ H λxs H1=>xs.length<=sizeLine/\∀p,H1 p=none->Q (.ref p) (upd H1 p (.tup xs))
abbrev Uw (t:TA):TE:=λσ H Q=>t σ H λxs H1=>xs.length<=sizeLine/\∀p,H1 p=none->Q (.ref p) (upd H1 p (.lst xs))
def OH{x1}(h:PA X es t):PE X (.Tuple es x1 pos) (Tp t):=by
 intro pins s σ H Q I hq;refine wpAny_Tuple_spliced (j3 (h pos pins s σ H _ I hq) λus s1 ⟨xs,H1,I1,r,z,q⟩=>⟨by rw[<- r.length];exact z,?_⟩);have hf:H1 s1.heap.objs.size=none:=I1.hok.fresh (aP _);refine⟨.ref s1.heap.objs.size,upd H1 s1.heap.objs.size (.tup xs),I1.laid (t':=s1.toks) (λb u e=>aO _ e) (aP _) ?_,rfl,q _ hf⟩;exact⟨z,us,r,⟨_,bu _ rfl,rfl,rfl,_,rfl⟩⟩
def N3(h:PA X es t):PE X (.List es pos) (Uw t):=by
 intro pins s σ H Q I hq;refine wpAny_List_spliced (j3 (h pos pins s σ H _ I hq) λus s1 ⟨xs,H1,I1,r,z,q⟩=>⟨by rw[<- r.length];exact z,?_⟩);have hf:H1 s1.heap.objs.size=none:=I1.hok.fresh (aP _);refine⟨.ref s1.heap.objs.size,upd H1 s1.heap.objs.size (.lst xs),I1.laid (t':=s1.toks) (λb u e=>aO _ e) (aP _) ?_,rfl,q _ hf⟩;exact⟨z,us,0,r,bu _ rfl⟩
end
meta abbrev Sp:=List V->Hp->VK->XK->Prop
meta abbrev KL:=List Env->Hp->aC->XK->af->aC->Prop
structure Env0 (P:aj)(w:ah)(K:au)(mg:Str->ba)(base:aq)(A:aA)(outer:List Env)(s:aC)(H:Hp):Prop where
 frames:A.frames=some outer
 mod:Mod K mg base
 bs:∀b o,base.get? b=some o->s.heap.get? b=some o/\H b=none
 bsz:base.objs.size<=s.heap.objs.size
 xh:s.heap.FunFrames base outer
 frf:∀b∈frs outer,H b=none
 hok:sO P w H s.heap
 bare:AllBare s.gens
abbrev CE (outer:List Env)(P:aj)(w:ah)(H:Hp)(s:aC)(Q:VK)(u:af)(s':aC):Prop:=
 ∃v H',s'.os=s.os/\AllBare s'.gens/\Un (frs outer) [] H H' s.heap s'.heap/\sO P w H' s'.heap/\RelV v u/\Q v H'
abbrev CR (CX:KL)(outer:List Env)(P:aj)(w:ah)(H:Hp)(s:aC)(Q:VK)(E:XK)(r:Result)(s':aC):Prop:=
 match r with
 | .ok (.ret u)=>CE outer P w H s Q u s'
 | .ok _=>False
 | .error e=>CX outer H s E e s'
structure FnOk (P:aj)(w:ah)(K:au)(mg:Str->ba)(base:aq)(CX:KL)(k:Nat)(f:ak)(fd:FuncData)(ps:am)(sp:Sp):Prop where
 len:∀vs H Q E,sp vs H Q E->vs.length=ps.length
 run:∀(A:aA) (outer:List Env) (s:aC) (H:Hp) (args:Args) (us:ap) (vs:List V) (Q:VK) (E:XK),Room k A->Env0 P w K mg base A outer s H->BindsTo s fd args (ps.zip us)->Vals vs us->sp vs H Q E ->
  codeAny (model P w) A (.call (.ref f) args) (CR CX outer P w H s Q E) s
section
variable {X:Cx}{pins:bj}{σ:St}{H:Hp}{s s':aC}
def Inv.T_(I:Inv X pins σ H s):Env0 X.prog X.w X.K X.mg X.base X.A X.stack s H:=
 ⟨I.ok.frames,I.ok.mod,I.bs,bS I.ok.bsz I.sz,I.stack,I.C1,I.hok,I.bare⟩
def Inv.after{Q:VK}(I:Inv X pins σ H s)(h:CE X.stack X.prog X.w H s Q u s'):EP X pins σ Q u s':=by
 obtain⟨v,H',os,bare,un,hok,r,q⟩:=h;obtain⟨hh,g,d,t,os'⟩:=s';obtain rfl:os'=s.os:=os;exact⟨v,H',I.call (h':=hh) (g':=g) (d':=d) (t':=t) (ch:=[]) un hok bare (λb z=>absurd z (by simp)),r,q⟩
end
abbrev MN (sp:Sp)(dvs:List V)(E:XK)(t:TA):TE:=λσ H Q=>t σ H λvs H1=>sp (vs++dvs) H1 Q E
abbrev Binds (K:au)(fd:FuncData)(ps:am)(ds:ap):Prop:=
 ∀(s:aC) (us:ap),K.In s.heap->(us++ds).length=ps.length->BindsTo s fd ⟨us,[]⟩ (ps.zip (us++ds))
def Binds.all{K:au}{fd:FuncData}{ps:am}(h:∀us:ap,us.length=ps.length->bindArgs fd ⟨us,[]⟩=pure (ps.zip us)):Binds K fd ps []:=λs us _ hl=>by
 rw[cA]at hl ⊢;exact .of_eq (h us hl)
abbrev Passes (CX:KL)(X:Cx)(E:XK):Prop:=∀(pins:bj) (σ:St) (H:Hp) (s:aC) (e:af) (s':aC),Inv X pins σ H s->CX X.stack H s E e s'->X.xe e s'
section
variable {X:Cx}{CX:KL}{k:Nat}{f C:ak}{fd:FuncData}{ps:am}{sp:Sp}{dvs:List V}{ds:ap}{E:XK}{x:Str}{p pos:Pos}{e:aE}{es:List aE}{t:TA}
def Qa{H:Hp}{Q:VK}(F:FnOk X.prog X.w X.K X.mg X.base CX k f fd ps sp)(hr:Room k X.A)(hb:Binds X.K fd ps ds)(hd:Vals dvs ds)(hx:Passes CX X E)
  (I:Inv X pins σ H s) (r:Vals vs us) (h:sp (vs++dvs) H Q E):wpAny (model X.prog X.w) X.A (call (.ref f) us) (EP X pins σ Q) X.xe s:=by
 have r2:Vals (vs++dvs) (us++ds):=r.append hd;have hl:(us++ds).length=ps.length:=by rw[<- r2.length];exact F.len _ _ _ _ h
 refine wpAny_call (g8 (F.run X.A X.stack s H ⟨us,[]⟩ (us++ds) (vs++dvs) Q E hr I.T_ (hb s us I.PM hl) r2 h) λr s' hq=>?_)
 cases r with
 | error e=>exact hx pins σ H s e s' I hq
 | ok fl=>
  cases fl with
  | ret u=>exact I.after hq
  | next=>exact False.elim hq
  | brk=>exact False.elim hq
  | cont=>exact False.elim hq
def Ms(F:FnOk X.prog X.w X.K X.mg X.base CX k f fd ps sp)(hr:Room k X.A)(hg:Gl X x)(hm:X.mg x=some (.ref f))(hk:PySem.W.keepIn X.K (.ref f)=true)(hb:Binds X.K fd ps ds)(hd:Vals dvs ds)(hx:Passes CX X E)
  (ha:PA X (e::es) t) (hdb:(x == ("__debug__" : Str))=false:=by decide) (he:starEach (e::es) X.env=(false,eval e X.env)::starEach es X.env:=by rfl) (hpl:(backTo pos (starEach es X.env)).any (·.1)=false:=by rfl) :
  PE X (.Call (.Name x p) (e::es) [] pos) (MN sp dvs E t):=by
 x_go;refine g9 (D6 I hg hm ?_ hdb);refine PySem.W.callWith_K (h₀:=X.base) I.ok.mod.kin hk (j3 (ha pos pins s σ H _ I h) λus s1 ⟨vs,H1,I1,r,q⟩=>⟨I1.PM,?_⟩) he hpl;exact Qa F hr hb hd hx I1 r q
structure Mk (K:au)(C f:ak):Prop where
 makes:PySem.W.makesIn K C=true
 init:PySem.W.findIn K (.ref C) "__init__" = some (some (.ref f))
 fn:PySem.W.isFn K (.ref f)=true
 kp:PySem.W.keepIn K (.ref C)=true
end
section
variable {fd:FuncData}{ps ks:am}
structure KBinds (K:au)(fd:FuncData)(ps ks:am)(g:ap->ap->ap)(gV:List V->List V->List V):Prop where
 to:∀(s:aC) (us ws:ap),K.In s.heap->(g us ws).length=ps.length->BindsTo s fd ⟨us,ks.zip ws⟩ (ps.zip (g us ws))
 rel:∀{vs:List V} {us:ap} {zs:List V} {ws:ap},Vals vs us->Vals zs ws->Vals (gV vs zs) (g us ws)
end
structure FnScope (N P:am)(sc:Scope):Prop where
 kind:sc.kind=.function
 co:sc.isCoroutine=false
 gen:sc.isGenerator=false
 nd:N.Nodup
 pre:N.take P.length=P
 par:∀x∈P,sc.names.lookup x=some .local\/sc.names.lookup x=some .cell
 nofree:∀y∈sc.names,y.2≠.free
theorem yp{kindOf:Str->Option NameKind}{x:Str}:∀{binds:List (Str×af)}{m:Str->ba},(∀v,(x,v)∉binds)->bindL kindOf binds m x=m x
 | [],_,_=>rfl
 | (n,v)::r,m,h=>by
  unfold bindL;rw[yp λw hw=>h w (aV _ hw)];split
  ·have:x≠n:=by rintro rfl;exact h v aW
   simp[this]
  ·rfl
theorem xS{kindOf:Str->Option NameKind}{x:Str}:∀{binds:List (Str×af)}{m:Str->ba},(∀v,(x,v)∉binds)->bindC kindOf binds m x=m x
 | [],_,_=>rfl
 | (n,v)::r,m,h=>by
  unfold bindC;rw[xS λw hw=>h w (aV _ hw)];split
  ·rfl
  ·have:x≠n:=by rintro rfl;exact h v aW
   simp[this]
theorem yk{kindOf:Str->Option NameKind}{x:Str}{v:af}:∀{P:am}{vs:ap}{i:Nat}{m:Str->ba},P.Nodup->P[i]?=some x->vs[i]?=some v->kindOf x=some .local ->
  bindL kindOf (P.zip vs) m x=some v
 | [],_,_,_,_,h,_,_=>by simp at h
 | _::_,[],_,_,_,_,h,_=>by simp at h
 | p::P,w::vs,0,m,nd,h1,h2,hk=>by
  simp at h1 h2;subst h1;subst h2;show bindL kindOf ((p,w)::P.zip vs) m p=_;unfold bindL;rw[yp λv hv=>(dR.mp nd).1 (iN hv).1,aN hk];simp
 | p::P,w::vs,i+1,m,nd,h1,h2,hk=>by
  skip
  unfold bindL;exact yk (i:=i) (dR.mp nd).2 (by simpa using h1) (by simpa using h2) hk
theorem xT{kindOf:Str->Option NameKind}{x:Str}{v:af}:∀{P:am}{vs:ap}{i:Nat}{m:Str->ba},P.Nodup->P[i]?=some x->vs[i]?=some v->kindOf x≠some .local ->
  bindC kindOf (P.zip vs) m x=some v
 | [],_,_,_,_,h,_,_=>by simp at h
 | _::_,[],_,_,_,_,h,_=>by simp at h
 | p::P,w::vs,0,m,nd,h1,h2,hk=>by
  simp at h1 h2;subst h1;subst h2;show bindC kindOf ((p,w)::P.zip vs) m p=_;unfold bindC;rw[xS λv hv=>(dR.mp nd).1 (iN hv).1,aM hk];simp
 | p::P,w::vs,i+1,m,nd,h1,h2,hk=>by
  skip
  unfold bindC;exact xT (i:=i) (dR.mp nd).2 (by simpa using h1) (by simpa using h2) hk
abbrev start (N:am)(vs:List V):St:=vs.map some++List.replicate (N.length-vs.length) none
abbrev B6 (CX:KL)(P:aj)(w:ah)(K:au)(mg:Str->ba)(base:aq)(N:am)(qual:Str)(scope:Scope)(f:ak)(cd:af)(A:aA)(outer:List Env)(s:aC)(H:Hp)(E:XK):Cx where
 prog:=P
 w:=w
 K:=K
 mg:=mg
 base:=base
 A:=A.deeper (envOfC qual scope s.heap.objs.size f cd)
 N:=N
 s₀:=s
 H₀:=H
 env:=envOfC qual scope s.heap.objs.size f cd
 outer:=outer
 stack:=envOfC qual scope s.heap.objs.size f cd::outer
 ex:=[]
 calm:=true
 fn:=λ_=>true
 pn:=[]
 xe:=λe s'=>wpAny (model P w) (A.deeper (envOfC qual scope s.heap.objs.size f cd)) (leaving (envOfC qual scope s.heap.objs.size f cd) e) (λ_ s''=>CX outer H s E e s'') (λe' s''=>CX outer H s E e' s'') s'
def zL{sc:Scope}{n:Nat}{x:Str}(h:sc.names.lookup x=some .cell):∃c,(cellsFrom n sc.names []).lookup x=some c:=by
 have q:=PySem.W.cellsFrom_some sc.names n [] (.inl h);exact fM.mp q
def E6{CX:KL}{P:aj}{w:ah}{K:au}{mg:Str->ba}{base:aq}{N ps:am}{scope:Scope}{f:ak}{A:aA}{outer:List Env}{s:aC}{H:Hp}{E:XK}{vs:List V}
  (S:FnScope N ps scope) (hd:A.handled=none) (e0:Env0 P w K mg base A outer s H) (hl:vs.length=ps.length) (r:Vals vs us)
  (x:InCallC s s.heap.objs.size (bindL (envOfC qual scope s.heap.objs.size f cd).kindOf (ps.zip us) λ_=>none) (cellsFrom (s.heap.objs.size+1) scope.names []) (bindC (envOfC qual scope s.heap.objs.size f cd).kindOf (ps.zip us) λ_=>none) s1) :
  Inv (B6 CX P w K mg base N qual scope f cd A outer s H E) [] (start N vs) H s1:=by
 have hpl:ps.length<=N.length:=by have:=dM List.length S.pre;rw[bw]at this;lia
 obtain⟨h1,tk,rfl,hk⟩:=x.done;have noA:∀b:ak,b∉(B6 CX P w K mg base N qual scope f cd A outer s H E).ex:=λb z=>absurd (show b∈([]:ar)from z) (by simp);refine⟨⟨e0.mod,S.kind,rfl,rfl,aP _,λy z c h1 h2=>?_,λy hy=>?_,λy c _ h=>?_,λ_=>hd,Around.frames_deeper e0.frames,.inr ⟨rfl,rfl⟩,λb z=>absurd z (noA b),e0.bs,e0.bsz,λb _ _=>noA b,λb z=>absurd z (noA b),e0.xh,e0.frf⟩,
  rfl,e0.bare,Un.kept hk,⟨_,x.toInCall.ns,λi y v h1 h2 h3=>?_⟩,λy c h=>⟨_,x.cell y c h⟩,e0.hok.fresh (aP _),λy c h=>?_,λp hp=>absurd (show p∈([]:bj)from hp) (by simp),e0.hok.kept hk,?_⟩
 ·exact name_of_addr x.apart (eB h1) (eB h2)
 ·have hy:scope.names.lookup y=some .cell\/scope.names.lookup y=some .free:=hy
  rcases hy with hy|hy
  ·exact zL hy
  ·exact absurd rfl (S.nofree _ (eB hy))
 ·exact le_of_lt (x.above y c (eB h))
 ·have hi:i<vs.length:=by
   unfold start at h2;by_cases hi:i<vs.length
   ·exact hi
   ·rw[dN (by simpa using hi)]at h2;rw[f6]at h2;split at h2<;>cases h2
  have ha:vs[i]?=some v:=by
   unfold start at h2;rw[bD (by simpa using hi),aT]at h2
   cases e:vs[i]? with
   | none=>rw[e]at h2;cases h2
   | some a=>rw[e]at h2;cases h2;rfl
  obtain⟨u,hu,rv⟩:=r.get ha;have hp:ps[i]?=some y:=by
   rw[<- S.pre,cY ()];exact h1
  have ndP:ps.Nodup:=by rw[<- S.pre];exact S.nd.sublist (List.take_sublist _ _)
  refine⟨u,rv,?_⟩
  rcases S.par y (aY hp)with k|k
  ·exact .inl ⟨k,yk ndP hp hu k⟩
  ·obtain⟨c,e⟩:=zL (n:=s.heap.objs.size+1) k;refine .inr ⟨.inl k,c,e,?_⟩;have q:=x.cell y c e;rw[xT ndP hp hu (by show scope.names.lookup y≠_;rw[k];decide)]at q;exact q
 ·exact e0.hok.fresh (le_of_lt (x.above y c (eB h)))
 ·unfold start;show _=N.length;rw[aU,aK,List.length_replicate]
  lia
def Ri{CX:KL}{P:aj}{w:ah}{K:au}{mg:Str->ba}{base:aq}{k:Nat}{f:ak}{kV pm ct:af}
  {osl:Array (ba)} {N ps:am} {sp:Sp} (lk:K.lookup f=some ⟨oc,od,.func (PySem.W.fnOf name qual params body scope dV kV doc pm an cdv ct),osl⟩) (hcd:PySem.W.codeIn K cdv qual=true) (S:FnScope N ps scope)
  (len:∀vs H Q E,sp vs H Q E->vs.length=ps.length)
  (hbody:∀(A:aA) (outer:List Env) (s:aC) (H:Hp) (vs:List V) (Q:VK) (E:XK),Room k (A.deeper (envOfC qual scope s.heap.objs.size f cdv))->sp vs H Q E ->
   ∃t,zw (B6 CX P w K mg base N qual scope f cdv A outer s H E) body t/\t { nx:=λ_ H'=>Q .non H',rt:=Q } (start N vs) H) :
  FnOk P w K mg base CX (k+1) f (PySem.W.fnOf name qual params body scope dV kV doc pm an cdv ct) ps sp:=by
 refine⟨len,λA outer s H args us vs Q E hr e0 hb r hsp=>?_⟩;have hl:=len _ _ _ _ hsp;have KX:K.In s.heap:=e0.mod.kin.keeps λb o e=>(e0.bs b o e).1;have lim:s.heap.NoLimit:=e0.mod.nolimit.keeps λb o e=>(e0.bs b o e).1;have hkind:∀y∈ps.zip us,scope.names.lookup y.1=some .local\/(scope.names.lookup y.1=some .cell/\((cellsFrom (s.heap.objs.size+1) scope.names []).lookup y.1).isSome=true):=λ⟨n,v⟩ hy=>by
  rcases S.par n (iN hy).1 with q|q
  ·exact .inl q
  ·exact .inr ⟨q,PySem.W.cellsFrom_some _ _ _ (.inl q)⟩
 refine codeAny_call_function hr.depth (KX _ _ lk) rfl S.co S.gen rfl (PySem.W.codeRec_of KX hcd) (hb _ _ _ _ ?_);refine wpAny_newFunctionEnv_cells S.kind hkind λenv he s1 x=>?_;subst he;refine⟨lim.keeps x.toInCall.keep,codeAny_func ?_⟩;obtain⟨t,ht,hq⟩:=hbody A outer s H vs Q E (hr.deeper _) hsp;have I:Inv (B6 CX P w K mg base N qual scope f cdv A outer s H E) [] (start N vs) H s1:=E6 S hr.hd e0 hl r x;refine eN (ht [] s1 (start N vs) H _ I hq) (λfl s' hs=>?_) λe s' hs=>hs;have fin:∀{σ':St} {H':Hp} {v:V} {u:af},Inv (B6 CX P w K mg base N qual scope f cdv A outer s H E) [] σ' H' s'->RelV v u->Q v H'->CE outer P w H s Q u s':=
  λ{σ' H' v u} J rv q=>⟨v,H',J.os,J.bare,J.base,J.hok,rv,q⟩
 cases fl with
 | ret u=>
  obtain⟨v,σ',H',J,rv,q⟩:=hs;exact fin J rv q
 | next=>
  obtain⟨σ',H',J,q⟩:=hs;exact fin (v:=V.non) (u:=Value.none) J rfl q
 | brk=>
  obtain⟨_,_,_,q⟩:=hs;exact False.elim q
 | cont=>
  obtain⟨_,_,_,q⟩:=hs;exact False.elim q
section
variable {X:Cx}{x:Str}{p pos:Pos}{e:aE}{es:List aE}{t:TA}{id T:String}{r:List V->Hp->VK->Prop}
abbrev Uo (r:List V->Hp->VK->Prop)(t:TA):TE:=λσ H Q=>t σ H λvs H1=>r vs H1 Q
def AR(hc:jE X (.builtin id) r)(hg:Gl X x)(hm:X.mg x=none)(hv:bootBuiltins x=some (.builtin id))(ha:PA X (e::es) t)(hn:x ≠ "__name__" := by decide)(hdb:(x == ("__debug__" : Str))=false:=by decide)
  (he:starEach (e::es) X.env=(false,eval e X.env)::starEach es X.env:=by rfl) (hpl:(backTo pos (starEach es X.env)).any (·.1)=false:=by rfl):PE X (.Call (.Name x p) (e::es) [] pos) (Uo r t):=by
 x_go;refine g9 (yZ I hg hm hv ?_ hn hdb);exact PyProof.Rows.callWith_builtin1 (j3 (ha pos pins s σ H _ I h) λus s1 ⟨vs,H1,I1,r1,q1⟩=>hc pins s1 σ H1 vs us Q I1 r1 q1) he hpl
def xN(hc:jE X (.type T) r)(hg:Gl X x)(hm:X.mg x=none)(hv:bootBuiltins x=some (.type T))(ha:PA X (e::es) t)(hn:x ≠ "__name__" := by decide)(hdb:(x == ("__debug__" : Str))=false:=by decide)
  (he:starEach (e::es) X.env=(false,eval e X.env)::starEach es X.env:=by rfl) (hpl:(backTo pos (starEach es X.env)).any (·.1)=false:=by rfl):PE X (.Call (.Name x p) (e::es) [] pos) (Uo r t):=by
 x_go;refine g9 (yZ I hg hm hv ?_ hn hdb);exact e9 (j3 (ha pos pins s σ H _ I h) λus s1 ⟨vs,H1,I1,r1,q1⟩=>hc pins s1 σ H1 vs us Q I1 r1 q1) he hpl
end
end L2
namespace HT
open PySem PyProof.Rows
abbrev lexLt:ae->ae->Bool
 | [],[]=>false
 | [],_::_=>true
 | _::_,[]=>false
 | x::xs,y::ys=>if x=y then lexLt xs ys else decide (x<y)
def lE(x y:Int)(xs ys:ae):lexLt (x::xs) (y::ys)=if x=y then lexLt xs ys else decide (x<y):=rfl
def oM:lexLt [] []=false:=rfl
def l7(y:Int)(ys:ae):lexLt [] (y::ys)=true:=rfl
def nU(x:Int)(xs:ae):lexLt (x::xs) []=false:=rfl
section
variable {prog:aj}{w:ah}{A:aA}{E:af->aC->Prop}{s:aC}
def Lh{t:ak}{vs ws:ap}{Q:af->aC->Prop}(ht:IsTup s.heap t vs.toArray)(hb:IsTup s.heap b ws.toArray)(hv:vs≠[])
  (h1:ws=[]->Q (.ref t) s) (h2:ws≠[]->Q (.ref s.heap.objs.size) { s with heap:=s.heap.push { cls:=.type "tuple",data:=.seq (vs++ws).toArray }})
  (hsz:vs.length+ws.length<=sizeLine):wpAny (model prog w) A (binaryOp .Add (.ref t) (.ref b)) Q E s:=by
 obtain⟨⟨cls,dd,data,sl⟩,ho,hc,n,hd⟩:=id ht;obtain⟨⟨cls2,dd2,data2,sl2⟩,ho2,hc2,n2,hd2⟩:=id hb;simp only at hc hd hc2 hd2;subst hc hd hc2 hd2;have e:vs.toArray++ws.toArray=(vs++ws).toArray:=by simp
 by_cases hw:ws=[]
 ·exact concat_meets ⟨_,ho,rfl⟩ ⟨_,ho2,rfl⟩ noFill_tuple_add seq_tuple_add gb f7 (fN _ _)
   (tuple_addW1 t b vs.toArray ws.toArray n n2 dd dd2 sl sl2 (by simpa using hv) (by simp[hw])) ⟨ho,ho2,h1 hw⟩
 ·refine concat_meets ⟨_,ho,rfl⟩ ⟨_,ho2,rfl⟩ noFill_tuple_add seq_tuple_add gb f7 (fN _ _)
   (tuple_addW2 t b vs.toArray ws.toArray n n2 dd dd2 sl sl2 (by simpa using hv) (by simpa using hw) (by rw[aQ,aQ];exact hsz)) ⟨ho,ho2,?_⟩
  rw[e];exact h2 hw
abbrev kX (n d:Nat):bb->Nat
 | none=>d
 | some v=>if v<0 then(v+(n:Int)).toNat else min v.toNat n
def zW(n d:Nat):kX n d none=d:=rfl
def pU(n d k:Nat):kX n d (some (k:Int))=min k n:=by
 show(if (k:Int)<0 then((k:Int)+(n:Int)).toNat else min (k:Int).toNat n)=min k n;rw[aM (),b9]
def NT(n d:Nat)(hd:d<=n)(o:bb):kX n d o<=n:=by
 cases o with
 | none=>exact hd
 | some v=>
  show(if v<0 then(v+(n:Int)).toNat else min v.toNat n)<=n;by_cases hv:v<0
  ·rw[aN hv];lia
  ·rw[aM hv];exact Nat.min_le_right _ _
def Dq(v:Int)(n d:Nat):(if v<0 then max (v+(n:Int)) 0 else min v (n:Int))=((kX n d (some v):Nat):Int):=by
 show(if v<0 then max (v+(n:Int)) 0 else min v (n:Int))=(((if v<0 then(v+(n:Int)).toNat else min v.toNat n):Nat):Int);by_cases hv:v<0
 ·dsimp[aN hv];lia
 ·dsimp[aM hv];lia
def BP(lo hi:bb)(n:Nat):Builtin.Slice.sliceAdjust lo hi 1 (n:Int)=(((kX n 0 lo:Nat):Int),((kX n n hi:Nat):Int)):=by
 have h1:¬((1:Int)<0):=()
 unfold Builtin.Slice.sliceAdjust;dsimp[h1,cE];refine Prod.ext ?_ ?_
 ·cases lo with
  | none=>rfl
  | some v=>exact Dq v n 0
 ·cases hi with
  | none=>rfl
  | some v=>exact Dq v n n
def B4(i j:Nat):Builtin.Slice.slicePlaces (i:Int) (j:Int) 1=j-i:=by
 unfold Builtin.Slice.slicePlaces;have h1:(1:Int)>0:=()
 dsimp[h1,cN,Int.ediv_one];split<;>lia
def wM{v:af}{Q:bb->aC->Prop}(p:IsPart v o)(h:Q o s):wpAny (model prog w) A (Builtin.Slice.slicePartIndex v) Q E s:=by
 cases p with
 | none=>exact slicePart_none h
 | int i t=>exact slicePart_int h
def t9{lo hi:bb}{n:Nat}{Q:Int×Int×Nat->aC->Prop}(hs:s.heap.IsSliceOf sl vl vu .none)(pl:IsPart vl lo)(pu:IsPart vu hi)
  (h:Q (((kX n 0 lo:Nat):Int),1,kX n n hi-kX n 0 lo) s):wpAny (model prog w) A (Builtin.Slice.sliceApplied (.ref sl) (pure (n:Int))) Q E s:=by
 obtain⟨os,hos,hcs,hds⟩:=id hs;unfold Builtin.Slice.sliceApplied Builtin.Slice.sliceFields;refine aH (aH (dU hos hds (x:=vl) rfl (aH (dU hos hds (x:=vu) rfl (aH (dU hos hds (x:=.none) rfl (aL ?_)))))));refine aH (slicePart_none ?_)
 skip
 rw[aM ⋯];refine aH (wM pl (aH (wM pu (aH (aL ?_)))));show wpAny _ _ (match Builtin.Slice.sliceAdjust lo hi 1 (n:Int)with|(lo,hi)=>pure (lo,(1:Int),Builtin.Slice.slicePlaces lo hi 1)) _ _ s;rw[BP lo hi n];show wpAny _ _ (pure (((kX n 0 lo:Nat):Int),(1:Int),Builtin.Slice.slicePlaces ((kX n 0 lo:Nat):Int) ((kX n n hi:Nat):Int) 1)) _ _ s;rw[B4];exact aL h
def Kg(xs:Array af)(i k:Nat):((List.range k).filterMap λ(m:Nat)=>xs[((i:Int)+(m:Int) * 1).toNat]?).toArray=((xs.toList.drop i).take k).toArray:=by
 have e:(λ(m:Nat)=>xs[((i:Int)+(m:Int) * 1).toNat]?)=λm=>xs[i+m]?:=by
  funext m
  have:((i:Int)+(m:Int) * 1).toNat=i+m:=()
  rw[this]
 rw[e];have:=pick_run xs i k;rw[g_]at this;have e2:((λx=>xs[x]?) ∘ λx=>i+x)=λm=>xs[i+m]?:=rfl;rw[e2]at this;rw[this]
def sN{t:ak}{items:Array af}{lo hi:bb}{Q:af->aC->Prop}(ht:IsTup s.heap t items)(hs:s.heap.IsSliceOf sl vl vu .none)(pl:IsPart vl lo)(pu:IsPart vu hi)
  (hw:¬(kX items.size 0 lo=0/\kX items.size items.size hi=items.size))
  (h:Q (.ref s.heap.objs.size) { s with heap:=s.heap.push { cls:=.type "tuple",data:=.seq ((items.toList.drop (kX items.size 0 lo)).take (kX items.size items.size hi-kX items.size 0 lo)).toArray }})
  (hsz:items.size<=sizeLine):wpAny (model prog w) A (getItem (.ref t) (.ref sl)) Q E s:=by
 have htake:sizeOk (.seq ((items.toList.drop (kX items.size 0 lo)).take (kX items.size items.size hi-kX items.size 0 lo)).toArray):=by
  show((items.toList.drop (kX items.size 0 lo)).take (kX items.size items.size hi-kX items.size 0 lo)).toArray.size<=sizeLine;rw[aQ,bw,cB,cJ];omega
 have hj:kX items.size items.size hi<=items.size:=NT _ _ (aP _) hi;obtain⟨os,hos,hcs,hds⟩:=id hs;have hTs:s.TypeIs (.ref sl) "slice" := ⟨os,hos,hcs⟩;unfold getItem
 try with_reducible refine di ?_
 first|refine aH (aL ?_)|skip
 refine aH (wpAny_sequenceKey ht.typeIs ⋯ ?_);refine aH (eE (name:=Str.ofString "__getitem__") ht.typeIs cj
  (c5 cj ht.typeIs entry_tuple_getitem ?_ (args_tuple_getitem _ _)))
 show wpAny _ _ (Builtin.Tuple.tupleItemsOf (.ref t) >>= _) _ _ s;refine aH (tupleItemsOf_ ht ?_);refine aH (iL hTs ?_);rw[aN ⋯];refine aH (t9 hs pl pu ?_);have hno:¬((((kX items.size 0 lo:Nat):Int) == 0 && (1:Int) == 1 && (kX items.size items.size hi-kX items.size 0 lo) == items.size)=true):=by
  intro q;rw[c6,c6]at q;have q1:((kX items.size 0 lo:Nat):Int)=0:=eq_of_beq q.1.1;have q2:kX items.size items.size hi-kX items.size 0 lo=items.size:=eq_of_beq q.2;exact hw ⟨by omega,by omega⟩
 show wpAny _ _ (if (((kX items.size 0 lo:Nat):Int) == 0 && (1:Int) == 1 && (kX items.size items.size hi-kX items.size 0 lo) == items.size)=true then _ else _) _ _ s;rw[aM hno,Kg]
 first
  | exact aH (m:=Builtin.Tuple.tupleExact _) (bM (aL ⟨_,rfl,aL h⟩) htake)
  | exact aH (m:=Builtin.Tuple.tupleExact _) (bM (aH (aL (aL ⟨_,rfl,aL h⟩))) htake)
  | exact aH (aH (m:=Builtin.Tuple.tupleExact _) (bM (aL (aL ⟨_,rfl,aL h⟩)) htake))
  | exact aH (aH (m:=Builtin.Tuple.tupleExact _) (bM (aL ⟨_,rfl,aL h⟩) htake))
end
end HT
namespace L2
open PySem PySem.Spec PyProof.Rows
meta abbrev TO:=St->Hp->(bb->Hp->Prop)->Prop
abbrev PO (X:Cx)(e:Option aE)(t:TO):Prop:=
 ∀(pins:bj) (s:aC) (σ:St) (H:Hp) (Q:bb->Hp->Prop),Inv X pins σ H s->t σ H Q ->
  wpAny (model X.prog X.w) X.A (evalPart e X.env) (λu s'=>∃o H',Inv X pins σ H' s'/\IsPart u o/\Q o H') X.xe s
abbrev LF:TO:=λ_ H Q=>Q none H
abbrev Rh (t:TE):TO:=λσ H Q=>t σ H λx H1=>∃i,x=.int i/\Q (some i) H1
def intsAre_of{ns:ae}:∀{us:ap},Vals (ns.map V.int) us->IntsAre us ns:=by
 induction ns with
 | nil=>intro us r;rw[map_nil]at r;cases r;exact .nil
 | cons n ns ih=>
  intro us r;rw[bX]at r
  cases r with
  | cons r1 r2=>
   obtain⟨t,e⟩:=r1;subst e;exact .cons n t (ih r2)
section
variable {X:Cx}{e:aE}{te:TE}{lo hi:Option aE}{tl th:TO}{pos p2:Pos}
def L3:PO X none LF:=by
 x_go;rw[iE];exact aL ⟨none,H,I,.none,h⟩
def K9(h:PE X e te):PO X (some e) (Rh te):=by
 intro pins s σ H Q I hw;rw[evalPart_some];refine j3 (h pins s σ H _ I hw) λu s1 ⟨x,H1,I1,r1,q1⟩=>?_;obtain⟨i,rfl,q⟩:=q1;obtain⟨t,rfl⟩:=r1;exact⟨some i,H1,I1,.int i t,q⟩
abbrev S8 (X:Cx)(r:V->bb->bb->Hp->VK->Prop):Prop:=
 ∀(pins:bj) (s:aC) (σ:St) (H:Hp) (x:V) (v vl vu:af) (lo hi:bb) (sl:ak) (Q:VK),Inv X pins σ H s->RelV x v->s.heap.IsSliceOf sl vl vu .none->IsPart vl lo->IsPart vu hi->r x lo hi H Q ->
  ∃T id,typeLookup (.type T) "__getitem__" = pure (some (.builtin id))/\s.TypeIs v T/\wpAny (model X.prog X.w) X.A (getItem v (.ref sl)) (EP X pins σ Q) X.xe s
abbrev VX (r:V->bb->bb->Hp->VK->Prop)(te:TE)(tl th:TO):TE:=λσ H Q=>te σ H λx H1=>tl σ H1 λl H2=>th σ H2 λu H3=>r x l u H3 Q
def Ks{r:V->bb->bb->Hp->VK->Prop}(hr:S8 X r)(he:PE X e te)(hl:PO X lo tl)(hu:PO X hi th):PE X (.Subscript e (.Slice lo hi none p2) pos) (VX r te tl th):=by
 x_go;refine Subscript_ (j3 (he pins s σ H _ I h) λv s1 ⟨x,H1,I1,r1,q1⟩=>?_);refine wpAny_Slice (j3 (hl pins s1 σ H1 _ I1 q1) λvl s2 ⟨l,H2,I2,pl,q2⟩=>j3 (hu pins s2 σ H2 _ I2 q2) λvu s3 ⟨u,H3,I3,pu,q3⟩=>?_);rw[iE];refine aL ?_;have I4:Inv X pins σ H3 { s3 with heap:=s3.heap.push { cls:=.type "slice",data:=.fields #[vl,vu,.none]}}:=I3.kept (t':=s3.toks) λb ob q=>aO _ q;obtain⟨T,id,hT,ht,hg⟩:=hr pins { s3 with heap:=s3.heap.push { cls:=.type "slice",data:=.fields #[vl,vu,.none]}} σ H3 x v vl vu l u s3.heap.objs.size Q I4 r1 (h_ ..) pl pu q3
 skip
 exact tail_any (ops:=[.ref s3.heap.objs.size,v]) ht hT hg (by with_unfolding_all rfl)
abbrev A0 (xs:List V)(lo hi:bb):List V:=(xs.drop (HT.kX xs.length 0 lo)).take (HT.kX xs.length xs.length hi-HT.kX xs.length 0 lo)
def uR(xs:List V)(lo hi:bb):(A0 xs lo hi).length<=xs.length:=by
 unfold A0;rw[bw,cB]
 lia
abbrev Ud (K:au):V->bb->bb->Hp->VK->Prop:=λx lo hi H Q=>∃a xs,x=.ref a/\mz K H a xs /\
 ¬(HT.kX xs.length 0 lo=0/\HT.kX xs.length xs.length hi=xs.length)/\∀p,H p=none->Q (.ref p) (upd H p (.tup (A0 xs lo hi)))
def NR:S8 X (Ud X.K):=by
 intro pins s σ H x v vl vu lo hi sl Q I rx hs pl pu h;obtain⟨a,xs,rfl,hx,hw,q⟩:=h
 cases rx
 obtain⟨its,r,ht,hz⟩:=I.tuple hx;have hlen:its.toArray.size=xs.length:=by rw[aQ];exact r.length.symm
 refine⟨"tuple",_,cj.lookup,ht.typeIs,?_⟩;refine HT.sN ht hs pl pu (by rw[hlen];exact hw) ?_ (by rw[hlen];exact hz);rw[hlen];refine⟨.ref s.heap.objs.size,_,I.laid (t':=s.toks) (o:=.tup (A0 xs lo hi)) (λb ob q=>aO _ q) (aP _) ?_,rfl,q _ (I.hok.fresh (aP _))⟩;exact⟨bS (uR xs lo hi) hz,_,(r.drop (HT.kX xs.length 0 lo)).take (HT.kX xs.length xs.length hi-HT.kX xs.length 0 lo),mJ.new _ _⟩
abbrev Si (K:au):R2:=λx y H Q=>∃a b xs ys,x=.ref a/\y=.ref b/\mz K H a xs/\mz K H b ys/\xs≠[]/\xs.length+ys.length<=sizeLine /\
 (ys=[]->Q (.ref a) H)/\(ys≠[]->∀p,H p=none->Q (.ref p) (upd H p (.tup (xs++ys))))
def Vals.zD(r:Vals xs us):us=[] ↔ xs=[]:=by
 cases r with
 | nil=>simp
 | cons _ _=>simp
def L6:nq X (binaryOp .Add) (Si X.K):=by
 kd_p;obtain⟨a,b,xs,ys,rfl,rfl,ha,hb,hx,hz,q1,q2⟩:=h
 cases rx
 cases ry
 obtain⟨its,r1,p1,_⟩:=I.tuple ha;obtain⟨its2,r2,p2,_⟩:=I.tuple hb;refine HT.Lh p1 p2 (λz=>hx (r1.zD.mp z)) (λz=>⟨.ref a,H,I,rfl,q1 (r2.zD.mp z)⟩) (λz=>?_) (by rw[<- r1.length,<- r2.length];exact hz);refine⟨.ref s.heap.objs.size,_,I.laid (t':=s.toks) (o:=.tup (xs++ys)) (λb ob q=>aO _ q) (aP _) ?_,rfl,q2 (λw=>z (r2.zD.mpr w)) _ (I.hok.fresh (aP _))⟩;exact⟨by rw[aU];exact hz,_,r1.append r2,mJ.new _ _⟩
end
abbrev vh (n:Nat)(i:Int):bi:=if 0<=i then(if i<n then some i.toNat else none)else if -(n:Int)<=i then some (i+n).toNat else none
abbrev mC {α:Type}(xs:List α)(i:Int):Option α:=(vh xs.length i).bind λj=>xs[j]?
def Cv{n:Nat}{i:Int}(h:vh n i=some j):seqIndex? i n=some j/\j<n/\-(n:Int)<=i/\i<n:=by
 unfold vh at h;by_cases h0:0<=i
 ·rw[aN h0]at h;by_cases h1:i<n
  ·rw[aN h1]at h;have e:i.toNat=j:=aR h;exact⟨by rw[seqIndex_of h0 h1,e],(),(),h1⟩
  ·rw[aM h1]at h;cases h
 ·rw[aM h0]at h;by_cases h1:-(n:Int)<=i
  ·rw[aN h1]at h;have e:(i+n).toNat=j:=aR h;exact⟨by rw[seqIndex_neg () h1,e],(),h1,()⟩
  ·rw[aM h1]at h;cases h
def yR{α:Type}{xs:List α}{i:Int}{v:α}(h:mC xs i=some v):∃j,seqIndex? i xs.length=some j/\xs[j]?=some v/\j<xs.length/\-(xs.length:Int)<=i/\i<xs.length:=by
 unfold mC at h
 cases e:vh xs.length i with
 | none=>rw[e]at h;cases h
 | some j=>
  rw[e]at h;obtain⟨h1,h2,h3,h4⟩:=Cv e;exact⟨j,h1,h,h2,h3,h4⟩
def Mu{α:Type}{xs:List α}{j:Nat}{v:α}(h:xs[j]?=some v):mC xs (j:Int)=some v:=by
 have hj:j<xs.length:=(aJ.mp h).1;have e:vh xs.length (j:Int)=some j:=by
  unfold vh;rw[aN (),aN ()];simp
 unfold mC;rw[e];exact h
def z6{α:Type}(xs:List α)(v:α):mC (xs++[v]) (-1)=some v:=by
 have hl:(xs++[v]).length=xs.length+1:=by simp
 have e:vh (xs++[v]).length (-1)=some xs.length:=by
  unfold vh;rw[hl,aM ⋯,aN ()];congr 1
  lia
 unfold mC;rw[e]
 skip
 simp
abbrev yE (b:aE):Prop:=∀o i,subscripted b false o i=operate [o,i] (getItem o i)
abbrev O6 (X:Cx)(r:R2):Prop:=
 ∀(value slice:aE) (pins:bj) (s:aC) (σ:St) (H:Hp) (x y:V) (v u:af) (Q:VK),Inv X pins σ H s->RelV x v->RelV y u->r x y H Q ->
  subscripted slice false v u=operate [v,u] (getItem v u)->wpAny (model X.prog X.w) X.A (subscriptTail value slice v u) (EP X pins σ Q) X.xe s
abbrev KJ (X:Cx)(id:String)(r:V->List V->Hp->VK->Prop):Prop:=
 ∀(pins:bj) (s:aC) (σ:St) (H:Hp) (x:V) (xs:List V) (v:af) (us:ap) (Q:VK),Inv X pins σ H s->RelV x v->Vals xs us->r x xs H Q ->
  wpAny (model X.prog X.w) X.A (call (.builtin id) (v::us)) (EP X pins σ Q) X.xe s
section
variable {X:Cx}{a b:aE}{ta tb:TE}{pos:Pos}
def MR{r:R2}(hr:O6 X r)(ha:PE X a ta)(hb:PE X b tb)(hs:yE b):PE X (.Subscript a b pos) (Q6 r ta tb):=by
 x_go;exact Subscript_ (O4 ha hb I h λv u s2 x y H2 I2 rx ry q=>hr a b pins s2 σ H2 x y v u Q I2 rx ry q (hs _ _))
abbrev T7 (K:au):R2:=λx y H Q=>∃p xs i v,x=.ref p/\y=.int i/\mw K H p xs/\mC xs i=some v/\Q v H
abbrev UJ (K:au):R2:=λx y H Q=>∃p xs i v,x=.ref p/\y=.int i/\mz K H p xs/\mC xs i=some v/\Q v H
abbrev TQ:R2:=λx y H Q=>∃z i c,x=.str z/\y=.int i/\z.length<=sizeLine/\mC z.cps.toList i=some c/\Q (.str ⟨#[c]⟩) H
def Ez:O6 X (T7 X.K):=by
 kst_p;obtain⟨p,xs,i,z,rfl,rfl,hq,he,q⟩:=h
 cases rx
 obtain⟨t,rfl⟩:=ry;obtain⟨its,r,pl,hz⟩:=I.list hq;obtain⟨j,h1,h2,h3,h4,h5⟩:=yR he;obtain⟨w,ew,rw'⟩:=r.get h2;have hl:=r.length;have hn:=qy;have fin:EP X pins σ Q w s:=⟨z,H,I,rw',q⟩;by_cases h0:0<=i
 ·have hj:i.toNat=j:=by
   rw[seqIndex_of h0 h5]at h1;exact aR h1
  exact item_listR pl.isList h0 () (by rw[hj];simpa using ew) fin hs
 ·have hj:(i+(its.toArray.size:Int)).toNat=j:=by
   rw[seqIndex_neg () h4]at h1;rw[aQ,<- hl];exact aR h1
  exact subscriptTail_builtinR (x:=w) pl.isList.typeIs iy.lookup
   (wpAny_getItem_list_neg (Q:=λr s'=>r=w/\EP X pins σ Q r s') pl.isList () (by rw[aQ]<;>lia) () (by rw[hj];simpa using ew) ⟨rfl,fin⟩) hs
def Oe:O6 X (UJ X.K):=by
 kst_p;obtain⟨p,xs,i,z,rfl,rfl,hq,he,q⟩:=h
 cases rx
 obtain⟨t,rfl⟩:=ry;obtain⟨its,r,pl,hz⟩:=I.tuple hq;obtain⟨j,h1,h2,h3,h4,h5⟩:=yR he;obtain⟨w,ew,rw'⟩:=r.get h2;have hl:=r.length;have hn:=qy;have fin:EP X pins σ Q w s:=⟨z,H,I,rw',q⟩;exact subscriptTail_builtinR (x:=w) pl.typeIs slot_tuple_getitem.lookup
  (getItem_tuple (j:=j) (Q:=λr s'=>r=w/\EP X pins σ Q r s') pl () () (by rw[aQ,<- hl];exact h1) (by simpa using ew) ⟨rfl,fin⟩) hs
def Qe:O6 X TQ:=by
 kst_p;obtain⟨z,i,c,rfl,rfl,hz,he,q⟩:=h;ksr_p;obtain⟨t',rfl⟩:=ry;obtain⟨j,h1,h2,h3,h4,h5⟩:=yR he;have hl:z.cps.toList.length=z.length:=by simp[Str.length]
 rw[hl]at h1 h4 h5;have hn:=qy;exact tail_any (typeIs_str s z t) slot_str_getitem.lookup (getItem_str (c:=c) (by
  have e1:decide (i < -(2 ^ 63:Int))=false:=a_ ();have e2:decide (i>=2 ^ 63)=false:=a_ ();rw[e1,e2,Bool.or_false]) (by rw[h1];simpa using h2) ⟨.str ⟨#[c]⟩,H,I.tok _,⟨_,rfl⟩,q⟩) hs
def BQ(its:ap)(n j:Nat)(u:af):Obj.mapSeq (·.setIfInBounds j u) { cls:=.type "list",data:=.seq its.toArray n }={ cls:=.type "list",data:=.seq (its.set j u).toArray n }:=by
 simp[Obj.mapSeq]
def Inv.lst{H:Hp}{s:aC}{p:ak}{xs:List V}(I:Inv X pins σ H s)(h:H p=some (.lst xs)) :
  ∃(its:ap) (n:Nat),Vals xs its/\s.heap.get? p=some { cls:=.type "list",data:=.seq its.toArray n }/\xs.length<=sizeLine:=by
 obtain⟨z,its,n,r,e⟩:=I.hok p _ h;exact⟨its,n,r,e,z⟩
def Inv.Ql{H:Hp}{s:aC}{p:ak}{ys:List V}{its its':ap}{n:Nat}{f:Obj->Obj}(I:Inv X pins σ H s)(h:H p=some (.lst xs))
  (ho:s.heap.get? p=some { cls:=.type "list",data:=.seq its.toArray n }) (hf:f { cls:=.type "list",data:=.seq its.toArray n }={ cls:=.type "list",data:=.seq its'.toArray n' }) (r:Vals ys its') (hz:ys.length<=sizeLine) (t:Nat) :
  Inv X pins σ (upd H p (.lst ys)) { s with heap:=s.heap.update p f,toks:=t }:=by
 have e:(s.heap.update p f).get? p=some { cls:=.type "list",data:=.seq its'.toArray n' }:=by
  rw[Heap.get?_update_self f ho (by rw[hf]<;>rfl),hf]
 refine I.write (x:=p) (e:=p) (by rw[h];trivial) (.inl rfl) (λb u hb q=>(Heap.get?_update_other _ _ (eL hb)).trans q) ⟨_,e⟩ ?_;exact⟨hz,its',n',r,e⟩
abbrev RZ:V->V->V->Hp->(Hp->Prop)->Prop:=λo i v H Q=>∃p xs k j,o=.ref p/\i=.int k/\H p=some (.lst xs)/\vh xs.length k=some j/\Q (upd H p (.lst (xs.set j v)))
def set_list:F1 X RZ:=by
 intro pins s σ H o i v ov iv u Q I ro ri rv h;obtain⟨p,xs,k,j,rfl,rfl,hp,hj,q⟩:=h
 cases ro
 obtain⟨t,rfl⟩:=ri;obtain⟨its,n,r,ho,hz⟩:=I.lst hp;obtain⟨h1,h2,h3,h4⟩:=Cv hj;have hl:=r.length;have hn:=qy;have I':Inv X pins σ (upd H p (.lst (xs.set j v))) { s with heap:=s.heap.update p (Obj.mapSeq (·.setIfInBounds j u))}:=
  I.Ql hp ho (BQ its n j u) (r.set rv j) (by rw[bG];exact hz) s.toks
 by_cases h0:0<=k
 ·have hk:k.toNat=j:=by
   rw[seqIndex_of h0 h4]at h1;exact aR h1
  exact PySem.W.ki_setAt ho h0 () (by rw[aQ,<- hl];exact h4) (by rw[hk];exact⟨_,I',q⟩)
 ·have hk:(k+(its.toArray.size:Int)).toNat=j:=by
   rw[seqIndex_neg () h3]at h1;rw[aQ,<- hl];exact aR h1
  exact PySem.W.ki_setBack ho () (by rw[aQ,<- hl];exact h3) () (by rw[hk];exact⟨_,I',q⟩)
def zl(lo hi:bb)(n:Nat):(sliceBounds lo hi none n).1=((HT.kX n 0 lo:Nat):Int)/\(sliceBounds lo hi none n).2.1=((HT.kX n n hi:Nat):Int)/\(sliceBounds lo hi none n).2.2=1:=by
 refine⟨?_,?_,rfl⟩
 ·cases lo with
  | none=>simp[sliceBounds,HT.kX]
  | some i=>
   dsimp[sliceBounds,HT.kX,getD_none,show(1:Int)>0 by decide,cN];by_cases h:i<0
   ·dsimp[h,cN]<;>lia
   ·dsimp[h,cE]<;>lia
 ·cases hi with
  | none=>simp[sliceBounds,HT.kX]
  | some i=>
   dsimp[sliceBounds,HT.kX,getD_none,show(1:Int)>0 by decide,cN];by_cases h:i<0
   ·dsimp[h,cN]<;>lia
   ·dsimp[h,cE]<;>lia
def xr(its:ap)(lo hi:bb):slicePick its.toArray lo hi none=((its.drop (HT.kX its.length 0 lo)).take (HT.kX its.length its.length hi-HT.kX its.length 0 lo)).toArray:=by
 obtain⟨h1,h2,h3⟩:=zl lo hi its.toArray.size;unfold slicePick;rw[h1,h2,h3];dsimp[sliceRange_one,pick_run,aQ]<;>rfl
abbrev TJ (K:au):V->bb->bb->Hp->VK->Prop:=λx lo hi H Q=>∃a xs,x=.ref a/\mw K H a xs/\∀p,H p=none->Q (.ref p) (upd H p (.lst (A0 xs lo hi)))
def EC:S8 X (TJ X.K):=by
 intro pins s σ H x v vl vu lo hi sl Q I rx hs pl pu h;obtain⟨a,xs,rfl,hx,q⟩:=h
 cases rx
 obtain⟨its,r,ht,hz⟩:=I.list hx;have hlen:=r.length;refine⟨"list",_,iy.lookup,ht.isList.typeIs,?_⟩;refine wpAny_getItem_list_slice ht.isList hs pl pu .none (by simp) ?_ (by rw[aQ]<;>lia);rw[xr,<- hlen];refine⟨.ref s.heap.objs.size,_,I.laid (t':=s.toks) (o:=.lst (A0 xs lo hi)) (λb ob q=>aO _ q) (aP _) ?_,rfl,q _ (I.hok.fresh (aP _))⟩;exact⟨bS (uR xs lo hi) hz,_,0,(r.drop (HT.kX xs.length 0 lo)).take (HT.kX xs.length xs.length hi-HT.kX xs.length 0 lo),bu _ rfl⟩
abbrev qf:V->Bool
 | .non=>true
 | .bl _=>true
 | .int _=>true
 | .str _=>true
 | _=>false
abbrev Bo:V->V->Bool
 | .non,.non=>true
 | .bl a,.bl b=>a == b
 | .bl a,.int b=>(if a then 1 else 0) == b
 | .int a,.bl b=>a == (if b then 1 else 0)
 | .int a,.int b=>a == b
 | .str a,.str b=>a == b
 | _,_=>false
def OX{A:aA}{x:V}{v:af}(ry:RelV y u)(rx:RelV x v)(fy:qf y=true)(fx:qf x=true):SeqAt.EqAt A s u v (Bo y x):=by
 cases y with
 | non=>
  cases ry
  cases x with
  | non=>cases rx;exact SeqAt.EqAt.same _
  | bl b=>cases rx;exact SeqAt.EqAt.none_bool b
  | int b=>obtain⟨t,rfl⟩:=rx;exact SeqAt.EqAt.none_int b t
  | str b=>obtain⟨t,rfl⟩:=rx;exact SeqAt.EqAt.none_str b t
  | _=>exact absurd (show false=true from fx) bq
 | bl a=>
  cases ry
  cases x with
  | non=>cases rx;exact SeqAt.EqAt.bool_none a
  | bl b=>cases rx;exact SeqAt.EqAt.bool_bool a b
  | int b=>obtain⟨t,rfl⟩:=rx;exact SeqAt.EqAt.bool_int a b t
  | str b=>obtain⟨t,rfl⟩:=rx;exact SeqAt.EqAt.bool_str a b t
  | _=>exact absurd (show false=true from fx) bq
 | int a=>
  obtain⟨t',rfl⟩:=ry
  cases x with
  | non=>cases rx;exact SeqAt.EqAt.int_none a t'
  | bl b=>cases rx;exact SeqAt.EqAt.int_bool a t' b
  | int b=>obtain⟨t,rfl⟩:=rx;exact SeqAt.EqAt.int_int a t' b t
  | str b=>obtain⟨t,rfl⟩:=rx;exact SeqAt.EqAt.int_str a t' b t
  | _=>exact absurd (show false=true from fx) bq
 | str a=>
  obtain⟨t',rfl⟩:=ry
  cases x with
  | non=>cases rx;exact SeqAt.EqAt.str_none a t'
  | bl b=>cases rx;exact SeqAt.EqAt.str_bool a t' b
  | int b=>obtain⟨t,rfl⟩:=rx;exact SeqAt.EqAt.str_int a t' b t
  | str b=>obtain⟨t,rfl⟩:=rx;exact SeqAt.EqAt.str_str a t' b t
  | _=>exact absurd (show false=true from fx) bq
 | _=>exact absurd (show false=true from fy) bq
abbrev QB (x:V)(u:af):Bool:=match u with
 | .none=>Bo .non x
 | .bool b=>Bo (.bl b) x
 | .int i _=>Bo (.int i) x
 | .str z _=>Bo (.str z) x
 | _=>false
def BR{x:V}(r:RelV y u)(f:qf y=true):QB x u=Bo y x:=by
 cases y with
 | non=>cases r;rfl
 | bl b=>cases r;rfl
 | int i=>obtain⟨t,rfl⟩:=r;rfl
 | str z=>obtain⟨t,rfl⟩:=r;rfl
 | _=>exact absurd (show false=true from f) bq
theorem vL{A:aA}{x:V}{v:af}(rx:RelV x v)(fx:qf x=true):∀{xs:List V}{us:ap},Vals xs us->xs.all qf=true->∀u∈us,SeqAt.EqAt A s u v (QB x u)
 | _,_,.nil,_=>λu hu=>by cases hu
 | y::xs,u::us,.cons r t,f=>λu' hu=>by
  rw[iF,c6]at f
  rcases bJ.mp hu with rfl|hu
  ·rw[BR r f.1];exact OX r rx f.1 fx
  ·exact vL rx fx t f.2 u' hu
abbrev Vf (x:V)(xs:List V):Bool:=xs.any λy=>Bo y x
def pN:jE X (.type "list") (λxs H Q=>∃p ys,xs=[.ref p]/\(mw X.K H p ys\/mz X.K H p ys)/\∀l,H l=none->Q (.ref l) (upd H l (.lst ys))):=by
 k_ne;obtain⟨p,ys,rfl,hq,q⟩:=h;gp_on
 cases rx
 have fin:∀(its:ap),Vals ys its->ys.length<=sizeLine->∀(h':aq) (c':Nat),(∀b o',s.heap.get? b=some o'->h'.get? b=some o') ->
   h'.get? s.heap.objs.size=some { cls:=.type "list",dict:=none,data:=.seq its.toArray c',slots:=#[]}->EP X pins σ Q (.ref s.heap.objs.size) { s with heap:=h' }:=λits r' hz h' c' kp e=>
  ⟨.ref s.heap.objs.size,_,I.laid (t':=s.toks) kp (aP _) (show kD X.prog X.w _ h' _ (.lst ys)from⟨hz,its,c',r',e⟩),rfl,q _ (I.hok.fresh (aP _))⟩
 rcases hq with hq|hq
 ·obtain⟨its,r',pl,hz⟩:=I.list hq;have hlen:=r'.length;obtain⟨o,ho,hc,n,hd⟩:=pl.isList;exact call_list_seq p (.inl rfl) ho hc hd (λh' c' kp e=>fin its r' hz h' c' kp e) (by dsimp[aQ]<;>lia)
 ·obtain⟨its,r',pl,hz⟩:=I.tuple hq;have hlen:=r'.length;obtain⟨o,ho,hc,n,hd⟩:=pl;exact call_list_seq p (.inr rfl) ho hc hd (λh' c' kp e=>fin its r' hz h' c' kp e) (by dsimp[aQ]<;>lia)
def oN:jE X (.type "tuple") (λxs H Q=>∃p ys,xs=[.ref p]/\((mw X.K H p ys/\∀l,H l=none->Q (.ref l) (upd H l (.tup ys)))\/(mz X.K H p ys/\Q (.ref p) H))):=by
 k_ne;obtain⟨p,ys,rfl,h⟩:=h;gp_on
 cases rx
 rcases h with⟨hq,q⟩|⟨hq,q⟩
 ·obtain⟨its,r',pl,hz⟩:=I.list hq;have hlen:=r'.length;refine call_tuple_list pl.isList (λh' kp=>?_) (by dsimp[aQ]<;>lia);have I1:Inv X pins σ H { s with heap:=h' }:=I.kept (t':=s.toks) kp;have I2:Inv X pins σ (upd H h'.objs.size (.tup ys)) { s with heap:=h'.push { cls:=.type "tuple",data:=.seq its.toArray }}:=
   I1.laid (t':=s.toks) (λb o e=>aO _ e) (aP _) (show kD X.prog X.w _ _ _ (.tup ys)from⟨hz,its,r',mJ.new _ _⟩)
  exact⟨.ref h'.objs.size,_,I2,rfl,q _ (I1.hok.fresh (aP _))⟩
 ·obtain⟨its,r',pl,hz⟩:=I.tuple hq;exact call_tuple_same pl ⟨.ref p,H,I,rfl,q⟩
abbrev S_ (K:au)(T:String)(x:V)(H:Hp):Prop:=match x with
 | .str _=>T = "str"
 | .int _=>T = "int"
 | .ref p=>(T = "list" /\ ∃xs,mw K H p xs)\/(T = "tuple" /\ ∃o,K.lookup p=some o/\o.cls=.type "tuple" /\ o.dict=none) \/
   (T = "dict" /\ ((∃kvs,H p=some (.dK kvs))\/∃kvs,H p=some (.dT kvs)))\/(T = "set" /\ ∃S n,H p=some (.set S n))
 | _=>False
def GG{H:Hp}{s:aC}{x:V}{v:af}(I:Inv X pins σ H s)(r:RelV x v)(ty:S_ X.K T x H) :
  s.TypeIs v T/\∀a,v=.ref a->∃ob,s.heap.get? a=some ob/\ob.dict=none:=by
 cases x with
 | str z=>
  obtain⟨t,rfl⟩:=r
  cases(show T = "str" from ty)
  exact⟨typeIs_str s z t,nofun⟩
 | int i=>
  obtain⟨t,rfl⟩:=r
  cases(show T = "int" from ty)
  exact⟨typeIs_int s i t,nofun⟩
 | ref p=>
  cases r
  rcases ty with⟨rfl,xs,hq⟩|⟨rfl,o,hk,hc,hd⟩|⟨rfl,hk⟩|⟨rfl,S,n,hk⟩
  ·obtain⟨its,_,pl,_⟩:=I.list hq;refine⟨pl.isList.typeIs,λa e=>?_⟩
   cases e
   obtain⟨o,n,e,c,hd,_⟩:=pl;exact⟨o,e,hd⟩
  ·refine⟨⟨o,I.PM p o hk,hc⟩,λa e=>?_⟩
   cases e
   exact⟨o,I.PM _ o hk,hd⟩
  ·have z:∃o,s.heap.get? p=some o/\o.ExactDict:=by
    rcases hk with⟨kvs,hk⟩|⟨kvs,hk⟩
    ·obtain⟨_,_,_,_,o,_,_,e,ex,_⟩:=I.hok p _ hk;exact⟨o,e,ex⟩
    ·obtain⟨_,_,_,_,o,_,_,e,ex,_⟩:=I.hok p _ hk;exact⟨o,e,ex⟩
   obtain⟨o,e,ex⟩:=z;refine⟨⟨o,e,ex.1⟩,λa e2=>?_⟩
   cases e2
   exact⟨o,e,ex.2.1⟩
  ·obtain⟨o,_,_,_,e,ex,_⟩:=I.hok p _ hk;refine⟨⟨o,e,ex.1⟩,λa e2=>?_⟩
   cases e2
   exact⟨o,e,ex.2.1⟩
 | _=>exact False.elim ty
abbrev TV (K:au)(T:String)(r:V->List V->Hp->VK->Prop)(to:TE):TE:=λσ H Q=>to σ H λx H1=>S_ K T x H1/\r x [] H1 Q
abbrev VQ (K:au)(T:String)(r:V->List V->Hp->VK->Prop)(to:TE)(t:TA):TE:=λσ H Q=>to σ H λx H1=>S_ K T x H1/\t σ H1 λxs H2=>r x xs H2 Q
variable {o e:aE}{es:List aE}{to:TE}{t:TA}{name:Str}{apos cpos:Pos}{T id:String}{r:V->List V->Hp->VK->Prop}
theorem Of(pa:PlainAttrs T)(slot:Slot T name id)(hty:typeOf (.builtin id)=pure (.type "method_descriptor"))(hm:KJ X id r)(ho:PE X o to)
  (hbase:attributeBase o name X.env (eval o X.env)=eval o X.env:=by rfl) (hline:(apos.endLine == cpos.line)=true:=by rfl):PE X (.Call (.Attribute o name apos) [] [] cpos) (TV X.K T r to):=by
 x_go;refine wpAny_Call_method0_late hbase hline (j3 (ho pins s σ H _ I h) λv s1 ⟨x,H1,I1,r1,ty,q1⟩=>?_);obtain⟨h1,h2⟩:=GG I1 r1 ty;exact⟨T,id,pa,slot,hty,h1,h2,dD rfl (PySem.evalArgs_none (hm pins s1 σ H1 x [] v [] Q I1 r1 .nil q1))⟩
def Sf(pa:PlainAttrs T)(slot:Slot T name id)(hty:typeOf (.builtin id)=pure (.type "method_descriptor"))(hm:KJ X id r)(ho:PE X o to)(ha:PA X (e::es) t)
  (hbase:attributeBase o name X.env (eval o X.env)=eval o X.env:=by rfl)
  (hfew:((backTo cpos (starEach (e::es) X.env)).all (λx=>!x.1) && (backToKw cpos (keywordEach [] X.env)).all (λx=>x.1.isSome)
   && decide ((e::es).length+([]:List Keyword).length+(if ([]:List Keyword).isEmpty then 0 else 1)<30))=true:=by rfl)
  (hline:(apos.endLine == cpos.line)=true:=by rfl) (hs:starEach (e::es) X.env=(false,eval e X.env)::starEach es X.env:=by rfl) (hplain:(backTo cpos (starEach es X.env)).any (·.1)=false:=by rfl) :
  PE X (.Call (.Attribute o name apos) (e::es) [] cpos) (VQ X.K T r to t):=by
 x_go;refine wpAny_Call_method_late hbase hfew hline rfl (j3 (ho pins s σ H _ I h) λv s1 ⟨x,H1,I1,r1,ty,q1⟩=>?_);obtain⟨h1,h2⟩:=GG I1 r1 ty;refine⟨T,id,pa,slot,hty,h1,h2,?_⟩;have hA:=ha cpos pins s1 σ H1 _ I1 q1;rw[hs]at hA ⊢;refine dD (by show(false || (backTo cpos (starEach es X.env)).any (·.1))=false;rw[hplain]<;>rfl) (gO ?_);exact j3 hA λus s2 ⟨vs,H2,I2,r2,q2⟩=>hm pins s2 σ H2 x vs v us Q I2 r1 r2 q2
end
abbrev UW (X:Cx)(id:String)(r:V->List V->Hp->VK->Prop):Prop:=
 ∀(pins:bj) (s:aC) (σ:St) (H:Hp) (x:V) (xs:List V) (v:af) (us:ap) (Q:VK),Inv X pins σ H s->RelV x v->Vals xs us->r x xs H Q ->
  wpAny (model X.prog X.w) X.A (call (.builtin id) (v::us)) (EP X pins σ Q) X.xe s
def Vals.one:∀{x:V}{us:ap},Vals [x] us->∃u,us=[u]/\RelV x u
 | _,_,.cons r .nil=>⟨_,rfl,r⟩
def Vals.zero:∀{us:ap},Vals [] us->us=[]
 | _,.nil=>rfl
def Vals.dropLast{xs:List V}{us:ap}(h:Vals xs us):Vals xs.dropLast us.dropLast:=by
 induction h with
 | nil=>exact .nil
 | cons r t ih=>
  cases t with
  | nil=>exact .nil
  | cons q t'=>exact .cons r ih
theorem Vals.eraseIdx:∀{xs:List V}{us:ap}(i:Nat),Vals xs us->Vals (xs.eraseIdx i) (us.eraseIdx i)
 | _,_,_,.nil=>.nil
 | _,_,0,.cons _ t=>t
 | _,_,i+1,.cons r t=>.cons r (Vals.eraseIdx i t)
def Vals.reverse{xs:List V}{us:ap}(h:Vals xs us):Vals xs.reverse us.reverse:=by
 induction h with
 | nil=>exact .nil
 | cons r t ih=>rw[dW,dW];exact Vals.append ih (.cons r .nil)
theorem Vals.rep(h:Vals xs us):∀k:Nat,Vals (List.replicate k xs).flatten (List.replicate k us).flatten
 | 0=>.nil
 | k+1=>by
  rw[cU,cU,dj,dj];exact Vals.append h (Vals.rep h k)
def Cf{α:Type}(l:List α):l.eraseIdx (l.length-1)=l.dropLast:=by
 induction l with
 | nil=>rfl
 | cons a r ih=>
  cases r with
  | nil=>rfl
  | cons b r=>
   have e:(a::b::r).length-1=((b::r).length-1)+1:=by
    have h1:(a::b::r).length=r.length+2:=rfl;have h2:(b::r).length=r.length+1:=rfl
    lia
   rw[e,List.eraseIdx_cons_succ,ih]
   all_goals rfl
theorem xX{α:Type}:∀(l:List α) (i:Nat),(l.eraseIdx i).length<=l.length
 | [],_=>aP _
 | _::_,0=>Nat.le_succ _
 | _::r,i+1=>Nat.succ_le_succ (xX r i)
theorem foldl_rep(its:ap):∀(k:Nat) (acc:ap),
  List.foldl (λx1 x2=>x1++x2) acc.toArray (List.replicate k its.toArray)=(acc++(List.replicate k its).flatten).toArray
 | 0,acc=>by simp
 | k+1,acc=>by
  have e:acc.toArray++its.toArray=(acc++its).toArray:=by simp
  have e2:(acc++its)++(List.replicate k its).flatten=acc++(List.replicate (k+1) its).flatten:=by
   rw[cU,dj,bH]
  rw[<- e2,<- foldl_rep its k (acc++its),<- e,cU,gR]
section
variable {X:Cx}{pins:bj}{σ:St}{H:Hp}{s:aC}{l:ak}{xs ys:List V}
def Inv.Qh{its its':ap}{n:Nat}{f:Array af->Array af}{t':Nat}(I:Inv X pins σ H s)(hH:H l=some (.lst xs))
  (e:s.heap.get? l=some { cls:=.type "list",data:=.seq its.toArray n }) (hf:f its.toArray=its'.toArray) (hv:Vals ys its') (hz:ys.length<=sizeLine) :
  Inv X pins σ (upd H l (.lst ys)) { s with heap:=s.heap.update l (Obj.mapSeq f),toks:=t' }:=by
 have q:=PySem.IsL.update e f;rw[hf]at q;refine I.write (x:=l) (e:=l) (by rw[hH];exact trivial) (.inl rfl) (λb' u hb hu=>(Heap.get?_update_other s.heap (Obj.mapSeq f) (eL hb)).trans hu) ⟨_,q⟩ ?_;exact⟨hz,its',_,hv,q⟩
def Inv.GL{its:ap}{t':Nat}(I:Inv X pins σ H s)(hv:Vals ys its)(hz:ys.length<=sizeLine) :
  Inv X pins σ (upd H s.heap.objs.size (.lst ys)) { s with heap:=s.heap.push { cls:=.type "list",data:=.seq its.toArray },toks:=t' }:=
 I.laid (λ_ _ q=>aO _ q) (aP _) ⟨hz,its,0,hv,bu _ rfl⟩
def Inv.fresh(I:Inv X pins σ H s):H s.heap.objs.size=none:=I.hok.fresh (aP _)
def Inv.FO(I:Inv X pins σ H s)(hH:H l=some (.lst xs)):xs.length<=sizeLine/\∃(its:ap) (n:Nat),Vals xs its/\xs.length=its.length/\s.heap.get? l=some { cls:=.type "list",data:=.seq its.toArray n }:=by
 obtain⟨z,its,n,r,e⟩:=I.hok l _ hH;exact⟨z,its,n,r,r.length,e⟩
def Hw{n:Nat}(h:n<=sizeLine):Builtin.List.listTooLong n=false:=by
 unfold Builtin.List.listTooLong;exact a_ ()
end
section
variable {X:Cx}
abbrev LW:V->List V->Hp->VK->Prop:=λx vs H Q=>∃l xs y,x=.ref l/\vs=[y]/\H l=some (.lst xs)/\xs.length<sizeLine/\Q .non (upd H l (.lst (xs++[y])))
def tY:UW X "list.append" LW:=by
 intro pins s σ H x vs v us Q I rx rv h;obtain⟨l,xs,y,rfl,rfl,hH,hz,q⟩:=h
 cases rx
 obtain⟨u,rfl,ru⟩:=rv.one;obtain⟨z,its,n,r,hl,e⟩:=I.FO hH;refine fV F.slot_list_append ⟨_,e,rfl⟩ F.entry_list_append (F.args_list_append_2 _ _) (PySem.list_append l its.toArray n u (by rw[aQ];lia)) ⟨e,?_⟩;refine⟨.non,_,I.Qh (its':=its++[u]) hH e (by simp) (r.append (.cons ru .nil)) ?_,rfl,q⟩;rw[aU,dc]
 lia
abbrev U8:V->List V->Hp->VK->Prop:=λx vs H Q=>∃l xs y,x=.ref l/\vs=[]/\H l=some (.lst xs)/\xs[xs.length-1]?=some y/\Q y (upd H l (.lst xs.dropLast))
def Qd:UW X "list.pop" U8:=by
 intro pins s σ H x vs v us Q I rx rv h;obtain⟨l,xs,y,rfl,rfl,hH,hy,q⟩:=h
 cases rx
 have hus:=rv.zero;subst hus;obtain⟨z,its,n,r,hl,e⟩:=I.FO hH;obtain⟨u,hu,ru⟩:=r.get hy;have hy':its.toArray[its.toArray.size-1]?=some u:=by
  show its.toArray[its.length-1]?=some u;rw[<- eY,<- hl];exact hu
 refine fV F.slot_list_pop ⟨_,e,rfl⟩ F.entry_list_pop (F.args_list_pop_1 _) (MeetsSeq.list_pop_last l its.toArray n u hy' (by rw[aQ];lia)) ⟨e,?_⟩;refine⟨y,_,I.Qh (its':=its.dropLast) hH e ?_ r.dropLast ?_,ru,q⟩
 ·skip
  rw[aQ,eo,Cf]
 ·rw[List.length_dropLast]
  lia
abbrev Pu:V->List V->Hp->VK->Prop:=λx vs H Q=>∃l xs i k y,x=.ref l/\vs=[.int i]/\H l=some (.lst xs)/\-(2 ^ 63)<=i/\i<2 ^ 63/\seqIndex? i xs.length=some k/\xs[k]?=some y/\Q y (upd H l (.lst (xs.eraseIdx k)))
def Hh:UW X "list.pop" Pu:=by
 intro pins s σ H x vs v us Q I rx rv h;obtain⟨l,xs,i,k,y,rfl,rfl,hH,h1,h2,hk,hy,q⟩:=h
 cases rx
 obtain⟨u,rfl,ru⟩:=rv.one;obtain⟨t,rfl⟩:=ru;obtain⟨z,its,n,r,hl,e⟩:=I.FO hH;obtain⟨w,hw,rw'⟩:=r.get hy;refine fV F.slot_list_pop ⟨_,e,rfl⟩ F.entry_list_pop (F.args_list_pop_2 _ _)
  (MeetsSeq.list_pop_at l its.toArray n i t k w (fitsIndex_both h1 h2) (by rw[aQ,<- hl];exact hk) (by rw[<- eY];exact hw) (by rw[aQ];lia)) ⟨e,?_⟩
 refine⟨y,_,I.Qh (its':=its.eraseIdx k) hH e ?_ (r.eraseIdx k) ?_,rw',q⟩
 ·skip
  rw[eo]
 ·have:=xX xs k
  lia
abbrev TF:R2:=λx y H Q=>∃l b xs zs,x=.ref l/\y=.ref b/\H l=some (.lst xs)/\H b=some (.lst zs)/\xs.length+zs.length<=sizeLine/\∀p,H p=none->Q (.ref p) (upd H p (.lst (xs++zs)))
def NK:nq X (binaryOp .Add) TF:=by
 kd_p;obtain⟨l,b,xs,zs,rfl,rfl,hH,hB,hz,q⟩:=h
 cases rx
 cases ry
 obtain⟨z,its,n,r,hl,e⟩:=I.FO hH;obtain⟨z2,its2,n2,r2,hl2,e2⟩:=I.FO hB;refine PySem.P.add_list e e2 ?_ (by rw[aQ,aQ];lia);have ea:its.toArray++its2.toArray=(its++its2).toArray:=by simp
 rw[ea];exact⟨.ref _,_,I.GL (t':=s.toks) (r.append r2) (by rw[aU];lia),rfl,q _ I.fresh⟩
abbrev UK:R2:=λx y H Q=>∃l k xs,x=.ref l/\y=.int k/\H l=some (.lst xs)/\-(2 ^ 63)<=k/\k<2 ^ 63/\xs.length * k.toNat<=sizeLine /\
 ∀p,H p=none->Q (.ref p) (upd H p (.lst (List.replicate k.toNat xs).flatten))
def len_rep{α:Type}(xs:List α)(k:Nat):(List.replicate k xs).flatten.length=k * xs.length:=by
 induction k with
 | zero=>simp
 | succ k ih=>rw[cU,dj,aU,ih,Nat.succ_mul,fu]
def PF:nq X (binaryOp .Mult) UK:=by
 kd_p;obtain⟨l,k,xs,rfl,rfl,hH,h1,h2,hz,q⟩:=h
 cases rx
 obtain⟨t,rfl⟩:=ry;obtain⟨z,its,n,r,hl,e⟩:=I.FO hH;have hlen:its.toArray.size * k.toNat<=sizeLine:=by rw[aQ,<- hl];exact hz
 have hcap:¬its.toArray.size * k.toNat>(2 ^ 63-1) / 8:=by
  have:(sizeLine:Nat)<=(2 ^ 63-1) / 8:=by decide
  omega
 have hfit:¬(!Builtin.List.listFitsIndex k)=true:=by
  rw[fitsIndex_both h1 h2];exact bq
 have hlong:¬Builtin.List.listTooLong (its.toArray.size * k.toNat)=true:=by
  rw[Hw hlen];exact bq
 have hnew:List.foldl (λx1 x2=>x1++x2) #[] (List.replicate (if its.toArray.isEmpty=true then 0 else k.toNat) its.toArray)=(List.replicate k.toNat its).flatten.toArray:=by
  have f0:∀m:Nat,List.foldl (λx1 x2=>x1++x2) #[] (List.replicate m its.toArray)=(List.replicate m its).flatten.toArray:=λm=>by
   have:=foldl_rep its m [];rw[List.nil_append]at this;exact this
  rw[f0]
  cases its with
  | nil=>simp
  | cons a r'=>rw[aM (by simp)]
 refine wpAny_binaryOp_repeat_ref (T := "list") (U := "int") ⋯ ⟨_,e,rfl⟩ (λs'=>typeIs_int s' k t) noFill_list_mul F.fills_int_mul F.slot_int_rmul repeat_list F.slot_int_index.lookup
  (fV F.slot_int_rmul (typeIs_int s k t) F.entry_int_rmul (F.args_int_rmul_2 _ _) (int___rmul___int_list k t l its.toArray n)
   ⟨e,rfl,⟨_,e,rfl⟩,fV F.slot_list_mul ⟨_,e,rfl⟩ F.entry_list_mul (F.args_list_mul_2 _ _) (AutoListH.list___mul___list_int_3 l its.toArray n k t hfit hcap hlong) ⟨e,?_⟩⟩)
 rw[hnew];exact⟨.ref _,_,I.GL (t':=s.toks) (r.rep k.toNat) (by rw[len_rep,fB];exact hz),rfl,q _ I.fresh⟩
end
end L2
namespace Att
open PySem PySem.W PySem.Calls PyProof.Rows
def uV{P:Params}:∀(ns:ae) (vs:ap),WellAll P h vs (ns.map WData.int)->IntsAre vs ns:=by
 intro ns
 induction ns with
 | nil=>
  intro vs w;rw[map_nil]at w
  cases w
  exact .nil
 | cons n ns ih=>
  intro vs w;rw[bX]at w
  cases w with
  | cons a b=>
   cases a
   exact .cons _ _ (ih _ b)
def F3{l:OpenLaw}{n:Nat}(hn:l.most=some n){P:Params}{h:aq}
  (hpre:l.row.toRowW.claim.pre args=true) (hwl:WellAll P h vals args) :
  ∃a vs ns,vals=[Value.ref a]/\args=[WData.list (ns.map WData.int)]/\h.get? a=some { cls:=.type "list",data:=.seq vs.toArray }/\IntsAre vs ns/\ns.length<=n:=by
 have hsh:WShape.hasAll [] args [.list .int]=true:=(pre_splitW hpre).1;have hc:l.pre.holds [] { args:=args }=true:=(pre_splitW hpre).2;obtain⟨d,r,rfl,h1,h2⟩:=hasAllW_cons hsh;obtain rfl:=hasAllW_nil h2;obtain⟨xs,rfl,h3⟩:=hasW_list h1;obtain⟨ns,rfl⟩:=items_int h3;have hlen:ns.length<=n:=by
  unfold OpenLaw.pre at hc;have h4:(WTm.not (.lt (.lit (.int (n:Int))) (.len (.arg 0)))).holds [] { args:=[.list (ns.map .int)]}=true:=by
   have h4:=(holds_andW hc).1;rw[hn]at h4;exact h4
  have h5:=condW_of h4 (w_not (w_lt w_lit (w_len_list (w_arg rfl))));rw[aK]at h5;refine Nat.le_of_not_lt λq=>?_;have q':(n:Int)<((ns.length:Nat):Int):=by omega
  first
   | (rw[bg q']at h5;exact absurd h5 ⋯)
   | (simp at h5;omega)
 cases hwl with
 | cons w1 w2=>
  cases w2
  cases w1 with
  | list ho hall=>exact⟨_,_,ns,rfl,rfl,ho,uV ns _ hall,hlen⟩
def FN(l:OpenLaw)(args:List WData):l.row.toRowW.claim.post args (.bool true) args=true:=
 postW_of (r:=l.row.toRowW) (X:=(true == true))
  (show WShape.has [] (.bool true) .bool=true by first|rfl|decide|simp[WShape.has,WShape.arms,WShape.armsAll])
  (show(WTm.eq .res (.lit (.bool true))).value [] { args:=args,res:=some (.bool true),after:=args }=some (.bool (true == true))from w_eq_bool (w_res rfl) w_lit) rfl
def A1{l:OpenLaw}{n:Nat}{q:aj}{XP:(Str->ba)->aq->Prop}{YP:ah->aq->Prop}{d:DefRec}
  (hn:l.most=some n) (hdf:d.params.defaults=[])
  (call:∀(w:ah) (s₀ s₁:aC) (mg mb:Str->ba) (fa:ak) (o:Obj) (pm cd doc:af) (a:ak) (vs:ap) (ns:ae),
   Ground q loose [] XP w s₀ mg mb s₁.heap->YP w s₁.heap ->
   s₁.heap.get? fa=some o->o.data=.func (docDef d.name d.params d.body d.scope pm cd doc)->s₁.heap.CodeRec cd d.name->mg d.name=some (.ref fa) ->
   s₁.heap.get? a=some { cls:=.type "list",data:=.seq vs.toArray }->IntsAre vs ns->ns.length<=n->s₁.gens=#[] ->
   codeAny (model l.prog w) callerA (.call (.ref fa) ⟨[.ref a],[]⟩) (λr s'=>r=.ok (.ret (.bool true))/\OldK s₁.heap s'.heap/\s'.os=s₁.os/\AllBare s'.gens) s₁) :
  WalkO q loose XP YP l.row.toRowW d [] (λf vs=>PySem.call f vs):=by
 intro w s₀ s₁ mg mb G Y fa o pm cd doc dV kV ho hd hcd hD hmg hg args vals as hpre hlay hrd hwl hlo;obtain rfl:dV=.none:=Dflts.none hD hdf;obtain rfl:kV=.none:=Dflts.noKw hD;obtain⟨a,vs,ns,rfl,rfl,hobj,hints,hlen⟩:=F3 hn hpre hwl;refine enter_call (g8 (call w s₀ s₁ mg mb fa o pm cd doc a vs ns G Y ho (fd_plain hd) hcd hmg hobj hints hlen hg) λr s' hq=>?_);obtain⟨rfl,h2,h3,h4⟩:=hq;exact⟨.inl ⟨.bool true,.bool true,[],rfl,λ_=>rfl,.bool true,FN l _,λ_=>⟨List.Pairwise.nil,λ_ hm=>(nomatch hm)⟩⟩,h2,h3,h4⟩
end Att
namespace L2
open PySem PySem.Spec PyProof.Rows
theorem uh:∀{vs:ap}{ns:ae},IntsAre vs ns->Vals (ns.map V.int) vs
 | _,_,.nil=>.nil
 | _,_,.cons n t h=>.cons ⟨t,rfl⟩ (uh h)
abbrev LP (H:Hp):Prop:=∀b,H b=none\/∃o xs,H b=some (.frz o (.lst xs))
def G8{P:aj}{w:ah}{K:au}{mg mb:Str->ba}{CX:KL}{k:Nat}{fa a:ak}{fd:FuncData}{x:Str}{sp:Sp}{s₁:aC}{vs:ap}{ns:ae}
  (KX:K.In s₁.heap) (hns:s₁.heap.Ns mainGlobals mg) (hb:s₁.heap.Ns builtinsNs mb) (hbb:∀x:Str,x ≠ "__name__" -> mb x=bootBuiltins x) (hlim:s₁.heap.NoLimit) (hg:s₁.gens=#[])
  (ha:s₁.heap.get? a=some { cls:=.type "list",data:=.seq vs.toArray }) (hi:IntsAre vs ns) (hl:ns.length<=sizeLine) (hr:Room k callerA)
  (F:∀base:aq,K.In base->base.Ns mainGlobals mg->FnOk P w K mg base CX k fa fd [x] sp) (hbind:∀(s:aC) (u:af),BindsTo s fd ⟨[u],[]⟩ [(x,u)])
  (hsp:∀H:Hp,LP H->mw K H a (ns.map V.int)->sp [.ref a] H (λv _=>v=.bl true) λ_ _ _=>False)
  (hCX:∀H e s',CX [] H s₁ (λ_ _ _=>False) e s'->False) :
  codeAny (model P w) callerA (.call (.ref fa) ⟨[.ref a],[]⟩) (λr s'=>r=.ok (.ret (.bool true))/\OldK s₁.heap s'.heap/\s'.os=s₁.os/\AllBare s'.gens) s₁:=by
 have rv:=uh hi;have lenV:=hi.length;have core:∀H:Hp,LP H->mw K H a (ns.map V.int)->sO P w H s₁.heap->(∀b,H b≠none->b=a)->(H a≠none->K.lookup a=none) ->
   codeAny (model P w) callerA (.call (.ref fa) ⟨[.ref a],[]⟩) (λr s'=>r=.ok (.ret (.bool true))/\OldK s₁.heap s'.heap/\s'.os=s₁.os/\AllBare s'.gens) s₁:=by
  intro H hO hS hok hA hK;have base_of:∀{b:ak} {o:Obj},s₁.heap.get? b=some o->H b=none->(yw s₁.heap H).get? b=some o:=λe n=>Gu e n;have noA:∀{b:ak} {o:Obj} {es:Array DictEntry} {ep:Nat},s₁.heap.get? b=some o->o.data=.dict es ep->H b=none:=λ{b o es ep} e d=>by
   cases q:H b with
   | none=>rfl
   | some u=>
    have e':b=a:=hA b (by rw[q];simp);subst e';rw[ha]at e;cases e;have d':Data.seq vs.toArray _=Data.dict es ep:=d
    cases d'
  have nsK:∀{b:ak} {m:Str->ba},s₁.heap.Ns b m->(yw s₁.heap H).Ns b m:=λ{b m} ⟨o,es,ep,e,d,r⟩=>⟨o,es,ep,base_of e (noA e d),d,r⟩;have hKb:K.In (yw s₁.heap H):=λb o e=>base_of (KX b o e) (by
   cases q:H b with
   | none=>rfl
   | some u=>
    have e':b=a:=hA b (by rw[q];simp);subst e';rw[hK (by rw[q];simp)]at e;cases e)
  have hM:Mod K mg (yw s₁.heap H):=⟨hKb,nsK hns,⟨mb,nsK hb,hbb⟩,let⟨mc,h1,h2⟩:=hlim;⟨mc,nsK h1,h2⟩⟩;have e0:Env0 P w K mg (yw s₁.heap H) callerA [] s₁ H:=⟨rfl,hM,λb o e=>L0 e,Nat.le_of_eq (F5 _ _),trivial,λb hb=>absurd (show b∈([]:ar)from hb) (by simp),hok,.of_eq hg⟩;refine g8 ((F _ hKb (nsK hns)).run callerA [] s₁ H ⟨[.ref a],[]⟩ [.ref a] [.ref a] _ _ hr e0 (hbind s₁ (.ref a)) (.cons rfl .nil) (hsp H hO hS)) λr s' h=>?_
  cases r with
  | error e=>exact(hCX H e s' h).elim
  | ok fl=>
   cases fl with
   | next=>exact False.elim h
   | brk=>exact False.elim h
   | cont=>exact False.elim h
   | ret u=>
    obtain⟨v,H',os,bare,un,hok',r',q⟩:=h;have q':v=.bl true:=q;subst q';obtain rfl:u=Value.bool true:=r';refine⟨rfl,OldK.of_keep λb o e=>?_,os,bare⟩
    cases q:H b with
    | none=>exact un.keep b o e q (by intro z;exact absurd (show b∈([]:ar)from z) (by simp)) (by simp)
    | some u=>
     rcases hO b with z|⟨ob,xs,z⟩
     ·rw[q]at z;cases z
     ·have z2:=un.frzs b ob _ z;obtain⟨e1,_⟩:=hok b _ z;obtain⟨e2,_⟩:=hok' b _ z2;rw[e]at e1;cases e1;exact e2
 cases hk:K.lookup a with
 | some o=>
  have e:=KX a o hk;rw[ha]at e
  cases e
  refine core (λ_=>none) (λ_=>.inl rfl) (.inr ⟨_,vs.toArray,_,hk,rfl,rfl,rfl,by rw[aQ,lenV];exact hl,by simpa using rv⟩) (λb u z=>by have z':(none:Option HO)=some u:=z;cases z') (λb z=>absurd rfl z) λz=>absurd rfl z
 | none=>
  refine core (λb=>if b=a then some (.frz { cls:=.type "list",data:=.seq vs.toArray } (.lst (ns.map V.int)))else none) (λb=>?_) (.inl (.inr ⟨{ cls:=.type "list",data:=.seq vs.toArray },aN rfl⟩)) (λb u z=>?_) (λb z=>?_) λ_=>hk
  ·by_cases hb:b=a
   ·exact .inr ⟨_,_,aN hb⟩
   ·exact .inl (aM hb)
  ·by_cases hb:b=a
   ·have z':=(aN hb).symm.trans z
    cases z'
    subst hb;exact⟨ha,by rw[aK];exact hl,vs,_,rv,ha⟩
   ·have z':=(aM hb).symm.trans z
    cases z'
  ·by_cases hb:b=a
   ·exact hb
   ·exact absurd (aM hb) z
def L4{l:PySem.W.OpenLaw}{n k:Nat}{q:aj}{XP:(Str->ba)->aq->Prop}{YP:ah->aq->Prop}{d:DefRec}{K:Params->au}{CX:ah->KL}{sp:ah->Sp}{x:Str}
  (hn:l.most=some n) (hn2:n<=sizeLine) (hdf:d.params.defaults=[]) (hr:Room k callerA)
  (hY:∀(w:ah) (h:aq),YP w h->(K w.params).In h)
  (F:∀(w:ah) (mg:Str->ba) (fa:ak) (h:aq),(K w.params).In h->h.Ns mainGlobals mg->mg d.name=some (.ref fa) ->
   ∃fd:FuncData,(∀(s:aC) (u:af),BindsTo s fd ⟨[u],[]⟩ [(x,u)]) /\
    ∀base:aq,(K w.params).In base->base.Ns mainGlobals mg->FnOk l.prog w (K w.params) mg base (CX w) k fa fd [x] (sp w))
  (hsp:∀(w:ah) (H:Hp) (a:ak) (ns:ae),ns.length<=n->LP H->mw (K w.params) H a (ns.map V.int)->sp w [.ref a] H (λv _=>v=.bl true) λ_ _ _=>False)
  (hCX:∀(w:ah) (H:Hp) (s:aC) (e:af) (s':aC),CX w [] H s (λ_ _ _=>False) e s'->False) :
  PySem.W.WalkO q loose XP YP l.row.toRowW d [] (λf vs=>PySem.call f vs):=by
 refine Att.A1 hn hdf λw s₀ s₁ mg mb fa o pm cd doc a vs ns G Y ho hd hcd hmg hobj hints hlen hg=>?_;have KX:=hY w _ Y;obtain⟨fd,hb,hF⟩:=F w mg fa _ KX G.T.g hmg;exact G8 KX G.T.g G.T.b G.T.builtins G.T.nolimit hg hobj hints (bS hlen hn2) hr hF hb (λH hO hS=>hsp w H a ns hlen hO hS) λH e s'=>hCX w H s₁ e s'
abbrev qN (s:aF):Arguments:=match s with
 | .FunctionDef _ a _ _ _ _ _ _ _ _=>a
 | _=>{ posonlyargs:=[],args:=[],vararg:=none,kwonlyargs:=[],kw_defaults:=[],kwarg:=none,defaults:=[]}
abbrev oE (s:aF):List aF:=match s with
 | .FunctionDef _ _ b _ _ _ _ _ _ _=>b
 | _=>[]
abbrev jo (s:aF):Scope:=match s with
 | .FunctionDef _ _ _ _ _ _ sc _ _ _=>sc
 | _=>{ kind:=.function,names:=[],isGenerator:=false,isCoroutine:=false }
meta abbrev qk:KL:=λ_ _ _ _ _ _=>False
meta abbrev E0:XK:=λ_ _ _=>False
def RC{X:Cx}:Passes qk X E0:=λ_ _ _ _ _ _ _ h=>h.elim
structure Fun (K:au)(x qual:Str)(st:aF)(f:ak)(fd:FuncData):Prop where
 ex:∃(oc:af) (od:Option ak) (kV doc pm:af) (an:Option ak) (cdv ct:af) (osl:Array (ba)),
  fd=PySem.W.fnOf x qual (qN st) (oE st) (jo st) .none kV doc pm an cdv ct/\K.lookup f=some ⟨oc,od,.func fd,osl⟩/\PySem.W.codeIn K cdv qual=true
 kp:PySem.W.keepIn K (.ref f)=true
section
variable {P:aj}{w:ah}{K:au}{mg:Str->ba}{base:aq}
def Fun.ok{x:Str}{st:aF}{f:ak}{fd:FuncData}{N ps:am}{k:Nat}{sp:Sp}(F:Fun K x qual st f fd)(S:FnScope N ps (jo st))(len:∀vs H Q E,sp vs H Q E->vs.length=ps.length)
  (hbody:∀(cdv:af) (A:aA) (outer:List Env) (s:aC) (H:Hp) (vs:List V) (Q:VK) (E:XK),Room k (A.deeper (envOfC qual (jo st) s.heap.objs.size f cdv))->sp vs H Q E ->
   ∃t,zw (B6 qk P w K mg base N qual (jo st) f cdv A outer s H E).QX (oE st) t/\t { nx:=λ_ H'=>Q .non H',rt:=Q } (start N vs) H):FnOk P w K mg base qk (k+1) f fd ps sp:=by
 obtain⟨oc,od,kV,doc,pm,an,cdv,ct,osl,rfl,lk,hcd⟩:=F.ex;refine Ri lk hcd S len λA outer s H vs Q E hr hsp=>?_;obtain⟨t,h,q⟩:=hbody cdv A outer s H vs Q E hr hsp;exact⟨t,h.QX,q⟩
def Fun.binds{x:Str}{st:aF}{f:ak}{fd:FuncData}{ps:am}(F:Fun K x qual st f fd)
  (h:∀(kV doc pm:af) (an:Option ak) (cdv ct:af) (us:ap),us.length=ps.length->bindArgs (PySem.W.fnOf x qual (qN st) (oE st) (jo st) .none kV doc pm an cdv ct) ⟨us,[]⟩=pure (ps.zip us)):Binds K fd ps []:=by
 obtain⟨oc,od,kV,doc,pm,an,cdv,ct,osl,rfl,lk,hcd⟩:=F.ex;exact .all (h kV doc pm an cdv ct)
def P4{x:Str}{st:aF}{f:ak}{kV pm ct:af}(l:K.lookup f=some ⟨oc,od,.func (PySem.W.fnOf x qual (qN st) (oE st) (jo st) .none kV doc pm an cdv ct),osl⟩)
  (c:PySem.W.codeIn K cdv qual=true) (k:PySem.W.keepIn K (.ref f)=true):Fun K x qual st f (PySem.W.fnOf x qual (qN st) (oE st) (jo st) .none kV doc pm an cdv ct):=⟨⟨oc,od,kV,doc,pm,an,cdv,ct,osl,rfl,l,c⟩,k⟩
end
section
variable {X:Cx}
def pv(i:Nat){x:Str}(hN:X.N[i]?=some x:=by rfl)(hv:QK X.env.scope x:=by first|exact Or.inl rfl|exact Or.inr (Or.inl rfl)|exact Or.inr (Or.inr rfl))(hd:(x == ("__debug__" : Str))=false:=by decide)
  (hcd:(x == ("__classdict__" : Str))=false:=by decide):PE X (.Name x pos) (Sq i):=HE hN hv hd hcd
end
set_option maxHeartbeats 4000000
abbrev KY (σ:St):bi->Option V
 | some j=>(σ[j]?).getD none
 | none=>none
abbrev uT (env:Env):List (Str×NameKind)->List (Str×ak)->List (Str×ak)
 | [],cs=>cs
 | (n,k)::r,cs=>uT env r (if k == .free then(n,(env.cells.lookup n).getD 0)::cs else cs)
def wk{scope:Scope}{env:Env}(h:∀y∈scope.names,y.2=.free->∃c,env.cells.lookup y.1=some c):closureFor scope env=pure (uT env scope.names []):=by
 have key:∀(l:List (Str×NameKind)) (cs:List (Str×ak)),(∀y∈l,y.2=.free->∃c,env.cells.lookup y.1=some c) ->
   (forIn l cs (λ(x:Str×NameKind) (r:List (Str×ak))=>(match x with
    | (name,kind)=>if (kind == NameKind.free)=true then(do let c <- cellOf env name;pure (ForInStep.yield ((name,c)::r)))else pure (ForInStep.yield r):Sem (ForInStep (List (Str×ak))))))=(pure (uT env l cs):Sem (List (Str×ak))):=by
  intro l
  induction l with
  | nil=>intro cs _;rfl
  | cons y r ih=>
   intro cs hl;obtain⟨n,k⟩:=y;rw[iO];by_cases hk:k=.free
   ·subst hk;obtain⟨c,hc⟩:=hl (n,.free) aW rfl;have e1:cellOf env n=pure c:=by
     unfold cellOf;rw[hc]
    dsimp[bN,cN,e1,pure_bind];rw[ih _ (λz hz=>hl z (aV _ hz))];dsimp[uT,bN,cN,hc,fC]
   ·have hb:(k == NameKind.free)=false:=by simpa using hk
    dsimp[hb,bF,cE,pure_bind];rw[ih _ (λz hz=>hl z (aV _ hz))];dsimp[uT,hb,bF,cE]
 have:=key scope.names [] h;exact(dM (λz=>z >>= λcs=>(pure cs:Sem (List (Str×ak)))) this).trans (pure_bind _ _)
theorem wN:∀{l:List (Str×NameKind)}{x:Str}{k:NameKind},l.lookup x=some k->(x,k)∈l
 | [],_,_,h=>nomatch h
 | (n,k')::r,x,k,h=>by
  rw[fD]at h
  cases hx:x == n with
  | true=>
   rw[hx]at h;have e:x=n:=by simpa using hx
   subst e
   cases h
   exact aW
  | false=>rw[hx]at h;exact aV _ (wN h)
theorem yr{env:Env}{x:Str}{c:ak}:∀{l:List (Str×NameKind)}{cs:List (Str×ak)},(∀y∈l,y.2=.free->∃c,env.cells.lookup y.1=some c)->(uT env l cs).lookup x=some c->env.cells.lookup x=some c\/cs.lookup x=some c
 | [],cs,_,h=>.inr h
 | (n,k)::r,cs,hl,h=>by
  have h':=yr (l:=r) (λz hz=>hl z (aV _ hz)) h
  rcases h' with h'|h'
  ·exact .inl h'
  ·by_cases hk:k=.free
   ·subst hk;dsimp[bN,cN]at h';obtain⟨c',hc⟩:=hl (n,.free) aW rfl;rw[hc,fC,fD]at h'
    cases hx:x == n with
    | true=>
     rw[hx]at h';have e:x=n:=by simpa using hx
     subst e;left;rw[hc];exact h'
    | false=>rw[hx]at h';exact .inr h'
   ·have hb:(k == NameKind.free)=false:=by simpa using hk
    dsimp[hb,bF,cE]at h';exact .inr h'
theorem xY{env:Env}{x:Str}:∀{l:List (Str×NameKind)}{cs:List (Str×ak)},(cs.lookup x).isSome=true->((uT env l cs).lookup x).isSome=true
 | [],cs,h=>h
 | (n,k)::r,cs,h=>by
  skip
  refine xY (l:=r) ?_;by_cases hk:(k == NameKind.free)=true
  ·rw[aN hk,fD]
   cases hx:x == n with
   | true=>rfl
   | false=>exact h
  ·rw[aM hk];exact h
theorem w6{env:Env}{x:Str}:∀{l:List (Str×NameKind)}{cs:List (Str×ak)},(x,NameKind.free)∈l->((uT env l cs).lookup x).isSome=true
 | [],_,h=>nomatch h
 | (n,k)::r,cs,h=>by
  rcases bJ.mp h with e|h
  ·cases e
   skip
   refine xY (l:=r) ?_;rw[aN (by rfl),fD];simp
  ·exact w6 (l:=r) h
abbrev jW (X:Cx)(scope:Scope)(N:am)(C:ak)(s₀:aC)(H₀:Hp)(ex:ar):Cx where
 prog:=X.prog
 w:=X.w
 K:=X.K
 mg:=X.mg
 base:=X.base
 A:=X.A
 N:=N
 s₀:=s₀
 H₀:=H₀
 env:=compEnvC scope (uT X.env scope.names []) C X.env
 outer:=X.stack
 stack:=X.stack
 ex:=ex
 fn:=λ_=>false
 calm:=X.calm
 pn:=[]
 xe:=λ_ _=>False
structure CpScope (X:Cx)(scope:Scope)(N:am)(cap:List (bi)):Prop where
 kind:scope.kind=.function
 nocell:∀y∈scope.names,y.2≠.cell
 nm:∀y∈scope.names,y.2=.local->scope.names.lookup y.1=some .local
 fr:∀y∈scope.names,y.2=.free->X.env.kindOf y.1=some .cell\/X.env.kindOf y.1=some .free
 rl:∀y,((relabel scope X.env).names.lookup y=some .cell\/(relabel scope X.env).names.lookup y=some .free)->(y,NameKind.free)∈scope.names
 len:cap.length=N.length
 nolf:∀x,(x,NameKind.free)∈scope.names->scope.names.lookup x≠some .local
 cp:∀(i j:Nat) (x:Str),N[i]?=some x->cap[i]?=some (some j)->X.N[j]?=some x/\(x,NameKind.free)∈scope.names
def GD{X:Cx}{N:am}{cap:List (bi)}{H:Hp}{s:aC}{fp:ar}{h₁:aq}{m:Str->ba}{tk:Nat}(S:CpScope X scope N cap)(I:Inv X pins σ H s)
  (hf:∀b∈fp,qx X pins H b) (ho:∀b∈fp,∃o,s.heap.get? b=some o) (hn:h₁.Ns s.heap.objs.size m) (hk:∀b o,s.heap.get? b=some o->h₁.get? b=some o) :
  Inv (jW X scope N s.heap.objs.size s H fp) [] (cap.map (KY σ)) H { s with heap:=h₁,toks:=tk }:=by
 kcf_m;have lk:∀x c,(uT X.env scope.names []).lookup x=some c->X.env.cells.lookup x=some c:=λx c e=>by
  rcases yr hfree e with z|z
  ·exact z
  ·cases z
 have lt:∀b o,s.heap.get? b=some o->b≠s.heap.objs.size:=λb o e=>bE (bf e);refine⟨⟨I.ok.mod,?_,I.ok.glob,I.ok.blt,aP _,?_,?_,?_,I.ok.hd,I.ok.frames,.inl rfl,?_,I.bs,bS I.ok.bsz I.sz,?_,?_,I.stack,I.C1⟩,rfl,I.bare,Un.kept hk,?_,?_,I.hok.fresh (aP _),?_,?_,I.hok.kept hk,?_⟩
 ·exact S.kind
 ·intro x y c e1 e2;exact I.ok.inj x y c (lk x c e1) (lk y c e2)
 ·intro x e;have hm:=S.rl x e;have:=w6 (env:=X.env) (cs:=[]) hm;exact fM.mp this
 ·intro x c e _;exact absurd e (by simp[jW])
 ·intro b hb;obtain⟨o,e⟩:=ho b hb;refine⟨lt b o e,λx c e2=>(hf b hb).2.2.2.2.1 x c (lk x c e2)⟩
 ·intro b o e hb;obtain⟨_,_,_,h3,_⟩:=hf b hb
  rcases h3 with z|z
  ·exact I.ok.noex b o e z
  ·exact absurd (bL (bf (I.ok.bs b o e).1) z) (d9 _)
 ·intro b hb hz;obtain⟨_,h1,h2,_⟩:=hf b hb
  rcases bJ.mp (I.BS b hz)with z|z
  ·exact h1 z
  ·exact h2 z
 ·refine⟨m,hn,λi x v e1 e2 e3=>?_⟩;rw[aT]at e2
  cases hc:cap[i]? with
  | none=>rw[hc]at e2;cases e2
  | some oj=>
   rw[hc]at e2
   cases oj with
   | none=>cases e2
   | some j=>
    have e2':(σ[j]?).getD none=some v:=aR e2;obtain⟨hj,hm⟩:=S.cp i j x e1 hc;obtain⟨m0,hn0,hl0⟩:=I.loc;have hσ:σ[j]?=some (some v):=by
     cases h:σ[j]? with
     | none=>rw[h]at e2';cases e2'
     | some z=>rw[h,fC]at e2';rw[e2']
    have hkd:=S.fr (x,.free) hm rfl;have hv:QK X.env.scope x:=.inr hkd;obtain⟨u,ru,lo⟩:=hl0 j x v hj hσ hv;refine⟨u,ru,?_⟩
    rcases lo with⟨lo,_⟩|⟨_,c,ec,ic⟩
    ·rcases hkd with z|z<;>(rw[z]at lo;cases lo)
    ·have h2:=w6 (env:=X.env) (cs:=[]) hm;obtain⟨c',hc'⟩:=fM.mp h2;have:c'=c:=aR ((lk x c' hc').symm.trans ec);subst this;refine .inr ⟨?_,c',hc',?_⟩
     ·rcases e3 with z|z|z
      ·exfalso;have:(relabel scope X.env).names.lookup x=some .local:=z;have hloc:scope.names.lookup x=some .local:=by
        have hmem:∃k,(x,k)∈(relabel scope X.env).names/\k=.local:=by
         clear hc' h2;have:=wN this;exact⟨_,this,rfl⟩
        obtain⟨k,hk1,rfl⟩:=hmem;obtain⟨⟨n',k'⟩,hm1,hm2⟩:=bA.mp hk1;dsimp only at hm2;split at hm2
        ·cases hm2
        ·cases hm2
         exact S.nm (x,.local) hm1 rfl
       exact False.elim (S.nolf x hm hloc)
      ·exact .inl z
      ·exact .inr z
     ·obtain⟨o,ho',hd⟩:=ic;exact⟨o,hk _ _ ho',hd⟩
 ·intro x c e;obtain⟨v,o,ho',hd⟩:=I.cell x c (lk x c e);exact⟨v,o,hk _ _ ho',hd⟩
 ·intro x c e;exact I.freeC x c (lk x c e)
 ·intro p hp
  cases hp
 ·rw[aK,S.len];rfl
abbrev KI (X:Cx)(ifs:List aE)(t:TT):Prop:=
 ∀(pins:bj) (s:aC) (σ:St) (H:Hp) (Q:Bool->Hp->Prop),Inv X pins σ H s->t σ H Q ->
  wpAny (model X.prog X.w) X.A (forIn ifs true λc r=>if r=true then do let ok <- isTrue c X.env (eval c X.env);pure (ForInStep.yield ok)else pure (ForInStep.yield r)) (TP X pins σ Q) X.xe s
abbrev Uu:TT:=λ_ H Q=>Q true H
def Mz{X:Cx}:KI X [] Uu:=λ_ _ _ H _ I h=>wpAny_tests_nil ⟨H,I,h⟩
def MA{X:Cx}{c:aE}{t:TT}(h:PT X c t):KI X [c] t:=λpins s σ H Q I q=>wpAny_tests_one (h pins s σ H Q I q)
abbrev Oz (cap:List (bi))(g:TG)(tc:TT)(te:TE)(σ:St)(Q:VK)(J:It)(H1:Hp):Prop:=∀D,H1 D=none ->
 ∃W:Nat->Nat->St->Hp->Prop,(∃m,W 0 m (cap.map (KY σ)) (upd H1 D (.lst [])))/\∀i m σ' H',W i m σ' H' ->
  (J.stop i H'/\Q (.ref D) H')\/(J.go i H'/\∀x H2,J.yld i H' x H2->g x σ' H2 λσ3 H3=>tc σ3 H3 λb H4=>
   if b=true then te σ3 H4 λy H5=>∃ys,H5 D=some (.lst ys)/\ys.length<sizeLine/\∃m',m'<m/\W (i+1) m' σ3 (upd H5 D (.lst (ys++[y])))
   else ∃m',m'<m/\W (i+1) m' σ3 H4)
abbrev Q8 (cap:List (bi))(wi:TI)(g:TG)(tc:TT)(te:TE):TE:=λσ H Q=>wi σ H (Oz cap g tc te σ Q)
def y9{α:Type}{t:Sem α}{Q Q':α->aC->Prop}{A:aA}{E:af->aC->Prop}(h:wpAny M A t Q (λ_ _=>False) s)(hQ:∀a s,Q a s->Q' a s):wpAny M A t Q' E s:=
 eN h hQ λ_ _ f=>f.elim
structure TurnG (ok:Cx->Prop)(P:aj)(w:ah)(K:au)(tg:aE)(J:It)(fp:ar)(it:ak)(tn:Nat->aq->Prop):Prop where
 obj:∀i h,tn i h->∀b∈fp,∃o,h.get? b=some o/\∀v,o.data≠.cell v
 keep:∀i h h',tn i h->(∀b∈fp,∀o,h.get? b=some o->h'.get? b=some o)->tn i h'
 item:∀(X:Cx),X.prog=P->X.w=w->X.K=K->ok X->∀(i:Nat) (pins:bj) (s:aC) (σ:St) (H:Hp) (E:af->aC->Prop),Inv X pins σ H s->(∀b∈fp,qx X pins H b)->tn i s.heap->J.go i H ->
  wpAny (model P w) X.A (pyNext (.ref it)) (λr s1=>∃u,r=some u /\
   wpAny (model P w) X.A (letOwnedTupleGo tg (.ref it) u) (λ_ s2=>∃x H',Inv X pins σ H' s2/\RelV x u/\J.yld i H x H'/\tn (i+1) s2.heap/\∀b∈fp,H' b=none) E s1) E s
 done:∀(X:Cx),X.prog=P->X.w=w->X.K=K->ok X->∀(i:Nat) (pins:bj) (s:aC) (σ:St) (H:Hp) (E:af->aC->Prop),Inv X pins σ H s->(∀b∈fp,qx X pins H b)->tn i s.heap->J.stop i H ->
  wpAny (model P w) X.A (pyNext (.ref it)) (λr s1=>r=none/\Inv X pins σ H s1) E s
 self:∀(A:aA) (i:Nat) (s:aC) (Q:af->aC->Prop) (E:af->aC->Prop),tn i s.heap->Q (.ref it) s->wpAny (model P w) A (pyIter (.ref it)) Q E s
abbrev Tw (ok:Cx->Prop)(X:Cx)(pins:bj)(σ:St)(tg:aE)(R:It->Hp->Prop)(itv:af)(s2:aC):Prop:=
 ∃(it:ak) (fp:ar) (tn:Nat->aq->Prop) (J:It) (H':Hp),itv=.ref it/\Inv X pins σ H' s2/\TurnG ok X.prog X.w X.K tg J fp it tn/\tn 0 s2.heap/\(∀b∈fp,qx X pins H' b)/\R J H'
abbrev UG (ok:Cx->Prop)(X:Cx)(tg iter:aE)(wi:TI):Prop:=
 ∀(pins:bj) (s:aC) (σ:St) (H:Hp) (R:It->Hp->Prop),Inv X pins σ H s->wi σ H R ->
  wpAny (model X.prog X.w) X.A (eval iter X.env) (λv s1=>wpAny (model X.prog X.w) X.A (pyIter v) (Tw ok X pins σ tg R) X.xe s1) X.xe s
def PI.g{X:Cx}{iter:aE}{wi:TI}(h:PI X tg iter wi):UG (λY=>Y.calm=true) X tg iter wi:=λpins s σ H R I q=>
 j3 (h pins s σ H R I q) λv s1 h1=>j3 h1 λitv s2 ⟨it,fp,tn,J,H',e,I',T,a,b,c⟩=>⟨it,fp,tn,J,H',e,I',⟨T.obj,T.keep,T.item,T.done,T.self⟩,a,b,c⟩
def Ec{ok:Cx->Prop}{X:Cx}{use:Option (af->Sem Unit)}{Q':af->aC->Prop}{iter:aE}{N:am}{wi:TI}{g:TG}{tc:TT}{te:TE}(S:CpScope X scope N cap)(hok:∀C s₀ H₀ ex,(∀a o u,X.H₀ a=some (.frz o u)->H₀ a=some (.frz o u))->ok (jW X scope N C s₀ H₀ ex))(hi:UG ok X tg iter wi)
  (hg:∀C s₀ H₀ ex,PG (jW X scope N C s₀ H₀ ex) tg g) (ht:∀C s₀ H₀ ex,KI (jW X scope N C s₀ H₀ ex) ifs tc) (he:∀C s₀ H₀ ex,PE (jW X scope N C s₀ H₀ ex) elt te)
  (hs:∀x,foldedSetIterable iter X.env x=pure x:=by intro _;rfl):∀(pins:bj) (s:aC) (σ:St) (H:Hp) (Q:VK),Inv X pins σ H s->Q8 cap wi g tc te σ H Q ->
  (∀(s6:aC) (C D:ak) (H5:Hp) (m:Str->ba),s6.heap.Ns C m->qx X pins H5 C->(∀h',Heap.SameBut C s6.heap h'->Inv X pins σ H5 { s6 with heap:=h' })->Q (.ref D) H5->∀v,compPost (model X.prog X.w) X.A X.xe use Q' (.ref D) C (.ok v) s6) ->
  wpAny (model X.prog X.w) X.A (comprehension (.ListComp elt [⟨tg,iter,ifs,0⟩] scope pos) scope X.env (firstIterPos [⟨tg,iter,ifs,0⟩] pos) (newList []) (firstAsync [⟨tg,iter,ifs,0⟩]) (firstIter [⟨tg,iter,ifs,0⟩] X.env) use) Q' X.xe s:=by
 intro pins s σ H Q I h hfin;kcf_m;refine wpAny_comprehension_free (use:=use) rfl hs (wk hfree) S.kind S.nm (j3 (hi pins s σ H _ I h) λxv s1 h1=>j3 h1 λitv s2 h2=>?_);obtain⟨it,fp,tn,J,H2,rfl,I2,T,st2,f2,h2⟩:=h2;refine bM (wpAny_newFunctionEnv S.nocell (by intro y hy;simp at hy) (λh₁ hns₁ hsb₁=>?_) S.kind);obtain⟨W,⟨m0,w0⟩,turn⟩:=h2 s2.heap.objs.size I2.fresh;dsimp only at hns₁ hsb₁ ⊢;have I3:Inv X pins σ (upd H2 s2.heap.objs.size (.lst [])) { s2 with heap:=s2.heap.push {}}:=I2.GL (t':=s2.toks) (its:=[]) .nil (cF _);have hfp:∀b∈fp,∃o,s2.heap.get? b=some o:=λb hb=>by
  obtain⟨o,e,_⟩:=T.obj 0 _ st2 b hb;exact⟨o,e⟩
 have neD:∀b∈fp,b≠s2.heap.objs.size:=λb hb=>by
  obtain⟨o,e⟩:=hfp b hb;exact bE (bf e)
 have f3:∀b∈fp,qx X pins (upd H2 s2.heap.objs.size (.lst [])) b:=λb hb=>⟨by rw[jl (neD b hb)];exact(f2 b hb).1,(f2 b hb).2⟩;have hDC:s2.heap.objs.size≠(s2.heap.push {}).objs.size:=by rw[eF];exact bE (cP _)
 have old:∀b o,(s2.heap.push {}).get? b=some o->h₁.get? b=some o:=λb o e=>hsb₁.extBut b o (bE (bf e)) (aO _ e);have I4:=GD (tk:=s2.toks+([]:List (Str×af)).length) (fp:=fp) S I3 f3 (λb hb=>by
  obtain⟨o,e⟩:=hfp b hb;exact⟨o,aO _ e⟩) hns₁ old
 have st4:tn 0 h₁:=T.keep _ _ _ st2 λb hb o e=>old b o (aO _ e);have hc:=hok (s2.heap.push {}).objs.size { s2 with heap:=s2.heap.push {}} (upd H2 s2.heap.objs.size (.lst [])) fp λa o u e=>by
  have z:=I2.base.frzs a o u e;rw[jl (λq=>by rw[q,I2.fresh]at z;cases z)];exact z
 have stat:∀{H':Hp},(∀b∈fp,H' b=none)->∀b∈fp,qx (jW X scope N (s2.heap.push {}).objs.size { s2 with heap:=s2.heap.push {}} (upd H2 s2.heap.objs.size (.lst [])) fp) [] H' b:=λhn b hb=>by
  have ok:=I4.ok;refine⟨hn b hb,(ok.exf b hb).1,ok.exfs b hb,.inl hb,λx c e=>(ok.exf b hb).2 x c e,λp hp=>nomatch hp⟩
 have loop:∀s4:aC,s4={ s2 with heap:=h₁,toks:=s2.toks+([]:List (Str×af)).length } ->
   codeAny (model X.prog X.w) X.A (.compLoop (.ListComp elt [⟨tg,iter,ifs,0⟩] scope pos) 0 (.ref it) (.ref s2.heap.objs.size) (compEnvC scope (uT X.env scope.names []) (s2.heap.push {}).objs.size X.env))
    (compPost (model X.prog X.w) X.A X.xe use Q' (.ref s2.heap.objs.size) (s2.heap.push {}).objs.size) s4:=by
  rintro s4 rfl;refine codeAny_loop rfl (λn s'=>∃i σ' H',Inv (jW X scope N (s2.heap.push {}).objs.size { s2 with heap:=s2.heap.push {}} (upd H2 s2.heap.objs.size (.lst [])) fp) [] σ' H' s'/\tn i s'.heap/\(∀b∈fp,H' b=none)/\W i n σ' H') (λn s5 hI=>?_) m0 ⟨0,_,_,I4,st4,λb hb=>(f3 b hb).1,w0⟩;obtain⟨i,σ5,H5,I5,st5,fr5,w5⟩:=hI
  skip
  refine wpAny_noted ?_;rw[compTurn_list];refine aH (d_ (aH ?_))
  rcases turn i n σ5 H5 w5 with⟨stop,q⟩|⟨go,step⟩
  ·refine j3 (T.done (jW X scope N (s2.heap.push {}).objs.size { s2 with heap:=s2.heap.push {}} (upd H2 s2.heap.objs.size (.lst [])) fp) rfl rfl rfl hc i [] s5 σ5 H5 _ I5 (stat fr5) st5 stop) λr s6 h9=>?_;obtain⟨hr,I6⟩:=h9;subst hr;obtain⟨m6,hn6,_⟩:=I6.loc;refine aL (hfin s6 _ _ H5 m6 hn6 (I3.Fe (aP _) I6.free) (λh' sb=>?_) q _);have u6:=I6.base;have nC:∀b o,(s2.heap.push {}).get? b=some o->b≠(s2.heap.push {}).objs.size:=λb o e=>bE (bf e);refine I3.Km (ch:=fp) I6.os ⟨λb o e n hb hx=>?_,λb o e n hb hx=>?_,λb o e n hx=>?_,λb o e hx=>?_,u6.tups,u6.frzs,u6.tbls⟩ ?_ I6.bare ?_
   ·exact sb.extBut b o (nC b o e) (u6.keep b o e n hb hx)
   ·obtain⟨sl,z⟩:=u6.slot b o e n hb hx;exact⟨sl,sb.extBut b _ (nC b o e) z⟩
   ·exact u6.free b o e n hx
   ·obtain⟨o',z⟩:=u6.there b o e hx;exact⟨o',sb.extBut b _ (nC b o e) z⟩
   ·intro b o e;have hb:∀c v,H5 c=some v->c≠(s2.heap.push {}).objs.size:=λc v e z=>by
     rw[z]at e;have:=I6.free;rw[show H5 (s2.heap.push {}).objs.size=none from this]at e
     cases e
    refine(I6.hok b o e).stay (λc v hc q=>sb.extBut c v ?_ q) (λ_ q=>q) λ_ _ q=>q
    rcases hc with z|z
    ·rw[z];exact hb b o e
    ·exact hb c _ z
   ·intro b hb;obtain⟨_,z1,_,z3,z4,z5⟩:=f3 b hb;exact⟨z3,z1,z4,z5⟩
  ·refine j3 (T.item (jW X scope N (s2.heap.push {}).objs.size { s2 with heap:=s2.heap.push {}} (upd H2 s2.heap.objs.size (.lst [])) fp) rfl rfl rfl hc i [] s5 σ5 H5 _ I5 (stat fr5) st5 go) λr s6 h9=>?_;obtain⟨u,hr,h6⟩:=h9;subst hr;refine aH (j3 h6 λ_ s7 ⟨x,H7,I7,r7,y7,st7,fr7⟩=>?_);have I7':=I7.pinned (stat fr7) (T.obj _ _ st7);refine aH (y9 (hg _ _ _ fp _ s7 σ5 H7 x u _ I7' r7 (step x H7 y7)) λ_ s8 ⟨σ8,H8,I8,q8⟩=>?_);refine aH (y9 (ht _ _ _ fp _ s8 σ8 H8 _ I8 q8) λok s9 ⟨H9,I9,q9⟩=>?_);have again:∀{s10:aC} {H10:Hp},Inv (jW X scope N (s2.heap.push {}).objs.size { s2 with heap:=s2.heap.push {}} (upd H2 s2.heap.objs.size (.lst [])) fp) ([]++rA fp s7.heap) σ8 H10 s10->(∃m',m'<n/\W (i+1) m' σ8 H10) ->
     ∃m,m<n/\∃i σ' H',Inv (jW X scope N (s2.heap.push {}).objs.size { s2 with heap:=s2.heap.push {}} (upd H2 s2.heap.objs.size (.lst [])) fp) [] σ' H' s10/\tn i s10.heap/\(∀b∈fp,H' b=none)/\W i m σ' H':=λ{s10 H10} I10 h9=>by
    obtain⟨m',hm,w10⟩:=h9;refine⟨m',hm,i+1,σ8,H10,I10.nY,T.keep _ _ _ st7 λb hb o e=>(I10.pin (b,o) (aX _ (aX _ (kh hb e)))).1,λb hb=>?_,w10⟩;obtain⟨o,e,d⟩:=T.obj _ _ st7 b hb;exact(I10.pin (b,o) (aX _ (aX _ (kh hb e)))).2.1
   cases ok with
   | false=>
    rw[aM bq]at q9;exact aL ⟨rfl,again I9 q9⟩
   | true=>
    rw[aN rfl]at q9;refine aH (aH (y9 (he _ _ _ fp _ s9 σ8 H9 _ I9 q9) λy s10 ⟨v10,H10,I10,r10,ys,hD,hz,w10⟩=>?_));refine aH (y9 (tY _ s10 σ8 H10 (.ref s2.heap.objs.size) [v10] _ [y] (λ_ H'=>H'=upd H10 s2.heap.objs.size (.lst (ys++[v10]))) I10 rfl (.cons r10 .nil) ⟨_,ys,v10,rfl,rfl,hD,hz,rfl⟩) λ_ s11 ⟨_,H11,I11,_,e11⟩=>?_);subst e11;exact aL (aL ⟨rfl,again I11 w10⟩)
 exact codeAny_compStart_list (loop _ rfl) (T.self _ 0 _ _ _ st4 (loop _ rfl))
def NO{ok:Cx->Prop}{X:Cx}{iter:aE}{N:am}{wi:TI}{g:TG}{tc:TT}{te:TE}(S:CpScope X scope N cap)(hok:∀C s₀ H₀ ex,(∀a o u,X.H₀ a=some (.frz o u)->H₀ a=some (.frz o u))->ok (jW X scope N C s₀ H₀ ex))(hi:UG ok X tg iter wi)
  (hg:∀C s₀ H₀ ex,PG (jW X scope N C s₀ H₀ ex) tg g) (ht:∀C s₀ H₀ ex,KI (jW X scope N C s₀ H₀ ex) ifs tc) (he:∀C s₀ H₀ ex,PE (jW X scope N C s₀ H₀ ex) elt te)
  (hs:∀x,foldedSetIterable iter X.env x=pure x:=by intro _;rfl):PE X (.ListComp elt [⟨tg,iter,ifs,0⟩] scope pos) (Q8 cap wi g tc te):=by
 x_go;rw[eval_ListComp];exact Ec (use:=none) (Q':=EP X pins σ Q) S hok hi hg ht he hs pins s σ H Q I h λs6 C D H5 m hn fk inv q v=>⟨m,hn,λh' sb=>⟨.ref D,H5,inv h' sb,rfl,q⟩⟩
def R_{X:Cx}{iter:aE}{N:am}{wi:TI}{g:TG}{tc:TT}{te:TE}(hc:X.calm=true)(S:CpScope X scope N cap)(hi:PI X tg iter wi)
  (hg:∀C s₀ H₀ ex,PG (jW X scope N C s₀ H₀ ex) tg g) (ht:∀C s₀ H₀ ex,KI (jW X scope N C s₀ H₀ ex) ifs tc) (he:∀C s₀ H₀ ex,PE (jW X scope N C s₀ H₀ ex) elt te)
  (hs:∀x,foldedSetIterable iter X.env x=pure x:=by intro _;rfl):PE X (.ListComp elt [⟨tg,iter,ifs,0⟩] scope pos) (Q8 cap wi g tc te):=
 NO S (λ_ _ _ _ _=>hc) hi.g hg ht he hs
section
variable {X:Cx}
def Hs{bs:List Bool}:∀{us:ap},Vals (bs.map V.bl) us->LSm.BoolsAre us bs:=by
 induction bs with
 | nil=>intro us r;cases r;exact .nil
 | cons b bs ih=>
  intro us r
  cases r with
  | cons h t=>
   have e:_=Value.bool b:=h;subst e;exact .cons b (ih t)
def F8(hc:X.calm=true):jE X (.builtin "any") (λxs H Q=>∃(p:ak) (bs:List Bool),xs=[.ref p]/\mw X.K H p (bs.map V.bl)/\Q (.bl (bs.any id)) H):=by
 k_ne;obtain⟨p,bs,rfl,hq,q⟩:=h;gp_on
 cases rx
 obtain⟨its,rv,pl,hz⟩:=I.list hq;have hb:=Hs rv;have hl:=pl.isList;have hlt:p<s.heap.objs.size:=by obtain⟨_,e,_⟩:=hl;exact bf e
 refine call_any_walk (wpAny_pyIter_list hl ?_);refine⟨s.heap.objs.size,[s.heap.objs.size,p],[s.heap.objs.size],its.toArray.size,_,_,λi=>(bs[i]?).getD false,rfl,Walks.list (A:=X.A.in1) (I.ok.hd hc) _ p (bE hlt) its.toArray,
  ⟨⟨_,bu _ rfl,rfl,rfl⟩,hl.push _⟩,λi v s' Q' E' hP hQ=>?_,λh' tk hk=>?_⟩
 ·obtain⟨b,e,rfl⟩:=hb.get i v (by simpa using hP);dsimp[e,fC]at hQ;exact dS hQ
 ·have e:((List.range its.toArray.size).any λi=>(bs[i]?).getD false)=bs.any id:=by
   rw[aQ,hb.length];exact LSm.range_any bs
  rw[e];exact⟨.bl _,H,I.kept (LSm.kept_iter hk),rfl,q⟩
def yL:jE X (.builtin "sorted") (λxs H Q=>∃(p:ak) (ns:ae),xs=[.ref p]/\(mw X.K H p (ns.map V.int)\/mz X.K H p (ns.map V.int))/\ns.length<64 /\
  ∀l (ns':ae),H l=none->ns'.Perm ns->ns'.Pairwise (·<=·)->Q (.ref l) (upd H l (.lst (ns'.map V.int)))):=by
 k_ne;obtain⟨p,ns,rfl,hq,h64,q⟩:=h;gp_on
 cases rx
 have go:∀(its:ap) (T:String) (o:Obj) (n:Nat),(T = "list" \/ T = "tuple")->s.heap.get? p=some o->o.cls=.type T->o.data=.seq its.toArray n->Vals (ns.map V.int) its ->
   wpAny (model X.prog X.w) X.A (call (.builtin "sorted") [.ref p]) (EP X pins σ Q) X.xe s:=by
  intro its T o n hT ho hcl hd rv;have hI:=intsAre_of rv;have hlen:its.length=ns.length:=by have:=rv.length;rw[aK]at this;exact this.symm
  refine Calls.call_function_entry kind_sorted plain_sorted entry_sorted (args_sorted1 _) ?_;unfold Builtin.«sorted»;refine aH (m:=checkCount "sorted" 1 1 _) (aL ?_);refine aH (wpAny_collect_seq p hT ho hcl hd (λh' hk=>?_) (by rw[aQ,hlen,cV];lia));refine aH (wpAny_newList ?_);have hoL:(h'.push (seqObj "list" its.toArray 0)).get? h'.objs.size=some (seqObj "list" its.toArray 0):=bu _ rfl
  skip
  refine aH (di (c5 slot_list_sort ⟨_,hoL,rfl⟩ entry_list_sort (list_sort_tree hoL hI () λout ns' a1 a2 a3=>⟨_,rfl,?_⟩) (args_list_sort _)));obtain⟨e,he⟩:=sortedHeap_at (out:=out) hoL;have hl':ns'.length=ns.length:=a2.length_eq;have I1:Inv X pins σ H { s with heap:=h' }:=I.kept (t':=s.toks) hk;have old:∀b ob,h'.get? b=some ob->(sortedHeap (h'.push (seqObj "list" its.toArray 0)) h'.objs.size its out).get? b=some ob:=λb ob eb=>by
   rw[sortedHeap_old (bE (bf eb)) (by rw[eF];exact e_ (bf eb))];exact aO _ eb
  refine aL ⟨_,rfl,.ref h'.objs.size,_,I1.laid (t':=s.toks) (o:=.lst (ns'.map V.int)) old (aP _) ?_,rfl,q _ ns' (I1.hok.fresh (aP _)) a2 a3⟩;refine⟨by rw[aK,hl',cV];lia,out.toList,e,uh a1,?_⟩;rw[he]
 rcases hq with hq|hq
 ·obtain⟨its,rv,pl,hz⟩:=I.list hq;obtain⟨o,ho,hcl,n,hd⟩:=pl.isList;exact go its "list" o n (.inl rfl) ho hcl hd rv
 ·obtain⟨its,rv,pl,hz⟩:=I.tuple hq;obtain⟨o,ho,hcl,n,hd⟩:=pl;exact go its "tuple" o n (.inr rfl) ho hcl hd rv
def NI:nq X (compareOp .Is) (λx y H Q=>∃a b,x=.bl a/\y=.bl b/\Q (.bl (a == b)) H):=by
 kd_p;obtain⟨a,b,rfl,rfl,q⟩:=h
 cases rx;cases ry
 exact is_bool ⟨.bl _,H,I,rfl,q⟩
def zd:jE X (.type "range") (λxs H Q=>∃i j,xs=[.int i,.int j]/\∀p,H p=none->Q (.ref p) (upd H p (.rng i j))):=by
 k_ne;obtain⟨i,j,rfl,q⟩:=h;obtain⟨u,w',rfl,⟨t,rfl⟩,⟨t',rfl⟩⟩:=vals2 r;refine call_range_2 ⟨.ref s.heap.objs.size,_,I.laid (o:=.rng i j) (λb o e=>aO _ e) (aP _) ?_,rfl,q _ I.fresh⟩;exact⟨t,t',s.toks,bu _ rfl⟩
abbrev jw (i j:Int):ae:=(List.range (j-i).toNat).map λk:Nat=>i+(k:Int)
def kr(i j:Int):(jw i j).length=(j-i).toNat:=by unfold jw;rw[aK,cW]
def v_{i:Int}{n:Nat}{acc:Array af}(h:ItemsOf (λk v=>∃t,v=Value.int (i+(k:Int) * 1) t) acc n):Vals (((List.range n).map λk:Nat=>i+(k:Int)).map V.int) acc.toList:=by
 obtain⟨hs,hv⟩:=h;have gen:∀(l:ap) (b:Nat),(∀j v,l[j]?=some v->∃t,v=Value.int (i+((b+j:Nat):Int)) t)->Vals (((List.range' b l.length).map λk:Nat=>i+(k:Int)).map V.int) l:=by
  intro l
  induction l with
  | nil=>intro b _;exact .nil
  | cons v l ih=>
   intro b hb;rw[bI,dH,bX,bX];refine .cons ?_ ?_
   ·obtain⟨t,e⟩:=hb 0 v rfl;exact⟨t,by rw[e];simp⟩
   ·refine ih (b+1) λj w hw=>?_;obtain⟨t,e⟩:=hb (j+1) w hw;exact⟨t,by rw[e,show b+(j+1)=b+1+j by lia]⟩
 have:=gen acc.toList 0 λj v hj=>by
  obtain⟨t,e⟩:=hv j v (by simpa using hj);exact⟨t,by rw[e,dF,Int.mul_one]⟩
 rw[cJ,hs,<- cG]at this;exact this
def IL{i j:Int}:Builtin.Range.rangeSize i j 1=(((j-i).toNat:Nat):Int):=by rw[rangeSize_one];split<;>omega
def xy(hc:X.calm=true):jE X (.type "list") (λxs H Q=>∃p i j,xs=[.ref p]/\H p=some (.rng i j)/\(-(2 ^ 62)<=i/\i<2 ^ 62/\-(2 ^ 62)<=j/\j<2 ^ 62)/\(j-i).toNat<=1000/\∀l,H l=none->Q (.ref l) (upd H l (.lst ((jw i j).map V.int)))):=by
 k_ne;obtain⟨p,i,j,rfl,hp,⟨b1,b2,b3,b4⟩,hn,q⟩:=h;gp_on
 cases rx
 obtain⟨t,u',v,e⟩:=I.hok p _ hp;refine call_list_range (n:=(j-i).toNat) (I.ok.hd hc) e (small_one b1 b2 b3 b4) IL () λh' tk acc' c' hk hS hacc=>?_;refine⟨.ref s.heap.objs.size,_,I.laid (o:=.lst ((jw i j).map V.int)) hk (aP _) ⟨?_,acc'.toList,c',v_ hacc,by rw[hS]⟩,rfl,q _ I.fresh⟩;rw[aK,kr,cV];lia
end
section
variable {X:Cx}
def Af{prog:aj}{w:ah}{A:aA}{E:af->aC->Prop}{s:aC}{Q:ap->aC->Prop}{r:ak}{a b c:Int}{t v:Tok}{n:Nat}(hh:A.handled=none)(hr:IsRange s.heap r a b c t u v)(hsmall:Builtin.Range.small a b c=true)
  (hn:Builtin.Range.rangeSize a b c=n) (hlen:n<=2 ^ 24)
  (hQ:∀h' tk (acc':Array af),(∀b o,s.heap.get? b=some o->h'.get? b=some o)->ItemsOf (λi v=>∃t,v=.int (a+i * c) t) acc' n->Q acc'.toList { s with heap:=h',toks:=tk }) :
  wpAny (model prog w) A (collect (.ref r)) Q E s:=by
 unfold collect;refine aH (wpAny_runValue (codeAny_builtin F.entry_proto_collect ?_));rw[Around.under_plainId F.plain_proto_collect _]
 skip
 refine aH (bM ?_);refine aL ⟨plainId_quiet F.plain_list_iadd _,codeAny_builtin F.entry_list_iadd ?_⟩;rw[Around.under_plainId F.plain_list_iadd _]
 skip
 have hS:(s.heap.push {}).get? s.heap.objs.size=some { cls:=.type "list",data:=.seq #[] 0 }:=bu _ rfl;have fin':∀(h':aq) (tk:Nat) (acc':Array af) (c':Nat),(∀b o,b≠s.heap.objs.size->(s.heap.push {}).get? b=some o->h'.get? b=some o) ->
   h'.get? s.heap.objs.size=some { cls:=.type "list",dict:=none,data:=.seq acc' c',slots:=#[]}->ItemsOf (λi v=>∃t,v=.int (a+i * c) t) acc' n ->
   wpAny (model prog w) A (match Value.ref s.heap.objs.size with
   | Value.ref a=>do
    match (<- load a).data with
     | Data.seq xs _=>pure xs.toList
     | _=>unsupported "internal:collect"
   | _=>unsupported "internal:collect") Q E { s with heap:=h',toks:=tk }:=by
  intro h' tk acc' c' hk hS' hacc
  skip
  refine aH (wpAny_load hS' ?_);refine aL ?_;exact hQ h' tk acc' (λb o e=>hk b o (bE (bf e)) (aO _ e)) hacc
 refine eN (wpAny_extend_range (A:=A) (R:=λrr s'=>rr=.ok (.ret (.ref s.heap.objs.size))/\∃h' tk acc' c',s'={ s with heap:=h',toks:=tk }/\(∀b o,b≠s.heap.objs.size->(s.heap.push {}).get? b=some o->h'.get? b=some o) /\
   h'.get? s.heap.objs.size=some { cls:=.type "list",dict:=none,data:=.seq acc' c',slots:=#[]}/\ItemsOf (λi v=>∃t,v=.int (a+i * c) t) acc' n)
  (s:={ s with heap:=s.heap.push {}}) hh (aO _ hr) hsmall hn hlen s.heap.objs.size (.ref s.heap.objs.size) 0 hS
  (λh' tk acc' c' hk hS' hacc=>⟨rfl,h',tk,acc',c',rfl,hk,hS',hacc⟩)) (λfin s' h=>?_) (λe s' h=>?_)
 ·cases fin with
  | done f=>
   obtain⟨e,h',tk,acc',c',rfl,hk,hS',hacc⟩:=h
   cases e
   exact fin' h' tk acc' c' hk hS' hacc
  | again c'=>exact⟨h.1,g8 h.2 λr s'' hr=>by
    obtain⟨rfl,h',tk,acc',c',rfl,hk,hS',hacc⟩:=hr;exact fin' h' tk acc' c' hk hS' hacc⟩
 ·exact absurd h.1 (by simp)
def q_(l:ak){a b:Int}{t v:Tok}{n:Nat}(hsmall:Builtin.Range.small a b 1=true)
  (hn:Builtin.Range.rangeSize a b 1=n) (hlen:n<=1000) :
  Meets (Builtin.«tuple.__new__» ⟨[.type "tuple",.ref l],[]⟩)
   (λA R s=>A.handled=none/\IsRange s.heap l a b 1 t u v/\∀(h':aq) (tk:Nat) (acc':Array af),(∀b o',s.heap.get? b=some o'->h'.get? b=some o')->ItemsOf (λi v=>∃t,v=.int (a+i * 1) t) acc' n->R (.ok (.ret (.ref h'.objs.size))) { s with heap:=h'.push { cls:=.type "tuple",data:=.seq acc' },toks:=tk }):=
 .of_wp λprog w A R s h=>by
  obtain⟨hp,g,d,tk,os⟩:=s;obtain⟨hh,ht,h⟩:=h;have hsub:=sub_tuple_self;have hinit:=init_tuple_lookup;have hmh:=madeHere_tuple;have hT:Shared.TypeIs ⟨hp,g,d,tk,os⟩ (.ref l) "range" := ⟨_,ht,rfl⟩;have hh':A.in1.handled=none:=hh
  wp_walk using AutoSeq1.wpAny_loadPart' ht,iL hT,Af (A:=A.in1) hh' ht hsmall hn (by omega)
  intro h' tk' acc' hk hacc;show wpAny _ _ (Builtin.Tuple.tupleExact acc'.toList.toArray >>= λv=>ret v) _ _ _;unfold Builtin.Tuple.tupleExact;have e:acc'.toList.toArray=acc':=by simp
  refine aH (bM ?_ (by show acc'.toList.toArray.size<=sizeLine;rw[e,hacc.1,cV];omega));refine aL ⟨_,rfl,?_⟩;rw[e];exact h h' tk' acc' hk hacc
def vJ(hc:X.calm=true):jE X (.type "tuple") (λxs H Q=>∃p i j,xs=[.ref p]/\H p=some (.rng i j)/\(-(2 ^ 62)<=i/\i<2 ^ 62/\-(2 ^ 62)<=j/\j<2 ^ 62)/\(j-i).toNat<=1000/\∀l,H l=none->Q (.ref l) (upd H l (.tup ((jw i j).map V.int)))):=by
 k_ne;obtain⟨p,i,j,rfl,hp,⟨b1,b2,b3,b4⟩,hn,q⟩:=h;gp_on
 cases rx
 obtain⟨t,u',v,e⟩:=I.hok p _ hp;refine callType_new F.called_tuple ⋯ (F.typeCall_tuple_1 _) (F.newCall_tuple_1 _) (λobj=>F.args_object_init_2 obj _) F.entry_tuple_new
  (q_ (n:=(j-i).toNat) p (small_one b1 b2 b3 b4) IL hn) ⟨I.ok.hd hc,e,λh' tk acc' hk hacc=>⟨⟨_,bu _ rfl,rfl⟩,?_⟩⟩
 have I1:Inv X pins σ H { s with heap:=h',toks:=tk }:=I.kept hk;refine⟨.ref h'.objs.size,_,I1.laid (t':=tk) (o:=.tup ((jw i j).map V.int)) (λb o e=>aO _ e) (aP _) ⟨?_,acc'.toList,v_ hacc,?_⟩,rfl,q _ (I1.hok.fresh (aP _))⟩
 ·rw[aK,kr,cV];lia
 ·have e:acc'.toList.toArray=acc':=by simp
  rw[e];exact mJ.new _ _
abbrev UU (K:au)(te:TE):TE:=λσ H Q=>te σ H λx H1=>∃a xs,x=.ref a/\mw K H1 a xs/\∀p,H1 p=none->Q (.ref p) (upd H1 p (.lst xs.reverse))
def KO{e:aE}{te:TE}{up cp:Pos}{kk:Nat}(he:PE X e te):PE X (.Subscript e (.Slice none none (some (.UnaryOp .USub (.Constant (.int 1) kk cp) up)) p2) pos) (UU X.K te):=by
 x_go;refine Subscript_ (j3 (he pins s σ H _ I h) λv s1 ⟨x,H1,I1,r1,a,xs,ex,hq,q⟩=>?_);subst ex
 cases r1
 refine wpAny_Slice ?_;rw[iE];refine aL ?_;refine aL ?_;rw[evalPart_some];refine j3 ((Ie (a:=.Constant (.int 1) kk cp) BJ B_) pins s1 σ H1 (λv H'=>v=.int (-1)/\H'=H1) I1 ⟨1,rfl,rfl,rfl⟩) λvs s3 h9=>?_;obtain⟨y,H3,I3,r3,ey,eH⟩:=h9;subst ey eH;obtain⟨t,rfl⟩:=r3;have I4:Inv X pins σ H3 { s3 with heap:=s3.heap.push { cls:=.type "slice",data:=.fields #[.none,.none,.int (-1) t]}}:=I3.kept (t':=s3.toks) λb ob q=>aO _ q;obtain⟨its,rv,pl,hz⟩:=I4.list hq
 skip
 refine tail_any (ops:=[.ref a,.ref s3.heap.objs.size]) pl.isList.typeIs iy.lookup ?_ (by with_unfolding_all rfl);have hlen:=rv.length;refine wpAny_getItem_list_slice pl.isList (h_ ..) .none .none (.int (-1) t) ⋯ ?_ (by rw[aQ]<;>lia);rw[PySem.W.krv_pick];refine⟨.ref _,_,I4.GL (t':=s3.toks) (ys:=xs.reverse) (its:=its.reverse) rv.reverse (by rw[c9];exact hz),rfl,q _ I4.fresh⟩
abbrev OV (K:au):R2:=λx y H Q=>∃a b ys,x=.ref a/\y=.ref b/\mz K H a []/\mz K H b ys/\Q (.ref b) H
def Gr:nq X (binaryOp .Add) (OV X.K):=by
 kd_p;obtain⟨a,b,ys,rfl,rfl,h1,h2,q⟩:=h
 cases rx
 cases ry
 obtain⟨us,r1,p1,_⟩:=I.tuple h1;obtain⟨ws,r2,p2,_⟩:=I.tuple h2
 cases r1
 obtain⟨⟨cls,dd,data,sl⟩,ho,hc,n,hd⟩:=id p1;obtain⟨⟨cls2,dd2,data2,sl2⟩,ho2,hc2,n2,hd2⟩:=id p2;simp only at hc hd hc2 hd2;subst hc hd hc2 hd2;exact concat_meets ⟨_,ho,rfl⟩ ⟨_,ho2,rfl⟩ noFill_tuple_add seq_tuple_add gb f7 (fN _ _)
   (tuple_addW0 a b _ ws.toArray n n2 dd dd2 sl sl2 (by simp)) ⟨ho,ho2,⟨.ref b,H,I,rfl,q⟩⟩
end
def ko:bootBuiltins "len" = some (.builtin "len"):=by decide +kernel
def Ot:bootBuiltins "abs" = some (.builtin "abs"):=by decide +kernel
def OE:bootBuiltins "any" = some (.builtin "any"):=by decide +kernel
def BE:bootBuiltins "max" = some (.builtin "max"):=by decide +kernel
def IB:bootBuiltins "min" = some (.builtin "min"):=by decide +kernel
def tV:bootBuiltins "sorted" = some (.builtin "sorted"):=by decide +kernel
def C7:bootBuiltins "list" = some (.type "list"):=by decide +kernel
theorem tu:bootBuiltins "tuple" = some (.type "tuple"):=by decide +kernel
def wj:bootBuiltins "range" = some (.type "range"):=by decide +kernel
structure Blt (mg:Str->ba):Prop where
 len:mg "len" = none
 abs:mg "abs" = none
 all:mg "all" = none
 any:mg "any" = none
 max:mg "max" = none
 min:mg "min" = none
 sorted:mg "sorted" = none
 isinstance:mg "isinstance" = none
 int:mg "int" = none
 bool:mg "bool" = none
 str:mg "str" = none
 list:mg "list" = none
 tuple:mg "tuple" = none
 range:mg "range" = none
def KS:∀{a b:ae},a.Perm b->a.Pairwise (·<=·)->b.Pairwise (·<=·)->a=b:=λp ha hb=>
 fO (λx y _ _ h1 h2=>iP h1 h2) ha hb p
def Cp(i j:Int):(jw i j).Pairwise (·<=·):=by
 unfold jw;rw[dX];exact gc.imp λh=>()
def p8(i j:Int):(jw i j).Nodup:=by
 unfold jw;rw[List.Nodup,dX];exact gc.imp λh=>()
def lg{i j k:Int}:k∈jw i j ↔ i<=k/\k<j:=by
 unfold jw;rw[bA];constructor
 ·rintro⟨a,ha,rfl⟩;have:=cO.mp ha
  lia
 ·rintro⟨h1,h2⟩;exact⟨(k-i).toNat,cO.mpr (),()⟩
theorem uL:∀{l m:ae},l.Nodup->(∀x∈l,x∈m)->m.length<=l.length->l.Perm m
 | [],m,_,_,h=>by
  have:m=[]:=dm.mp (Nat.le_zero.mp h);rw[this]
 | a::l,m,nd,hs,hl=>by
  have ha:a∈m:=hs a aW;have nd':=dR.mp nd;have pm:m.Perm (a::m.erase a):=List.perm_cons_erase ha;have ih:=uL (l:=l) (m:=m.erase a) nd'.2 (λx hx=>by
   have hxa:x≠a:=λe=>nd'.1 (e ▸ hx);exact(List.mem_erase_of_ne hxa).mpr (hs x (aV _ hx))) (by
   rw[List.length_erase_of_mem ha];dsimp[bI]at hl
   lia)
  exact(List.Perm.cons a ih).trans pm.symm
abbrev Kn (P:aj)(w:ah)(K:au)(mg:Str->ba)(base:aq)(k:Nat)(x:Str)(ps:am)(sp:Sp):Prop:=
 ∃(f:ak) (fd:FuncData),FnOk P w K mg base qk k f fd ps sp/\mg x=some (.ref f)/\PySem.W.keepIn K (.ref f)=true/\Binds K fd ps []
def Rp{X:Cx}{k:Nat}{x:Str}{sp:Sp}{e:aE}{t:TA}{p:Pos}(G:Kn X.prog X.w X.K X.mg X.base k x ps sp)(hr:Room k X.A)(ha:PA X (e::es) t)(hg:Gl X x:=by rfl)
  (hdb:(x == ("__debug__" : Str))=false:=by decide) (hs:starEach (e::es) X.env=(false,eval e X.env)::starEach es X.env:=by rfl) (hplain:(backTo pos (starEach es X.env)).any (·.1)=false:=by rfl) :
  PE X (.Call (.Name x p) (e::es) [] pos) (MN sp [] E0 t):=by
 obtain⟨f,fd,F,hm,hk,hb⟩:=G;exact Ms F hr hg hm hk hb .nil RC ha hdb hs hplain
abbrev vP (XN fs:am):am->List (bi)->Prop
 | [],[]=>True
 | _::N,none::c=>vP XN fs N c
 | x::N,some j::c=>XN[j]?=some x/\x∈fs/\vP XN fs N c
 | _,_=>False
theorem vP.len{fs:am}:∀{N:am}{c:List (bi)},vP XN fs N c->c.length=N.length
 | [],[],_=>rfl
 | _::N,none::c,h=>dM (·+1) (vP.len (N:=N) (c:=c) h)
 | _::N,some j::c,h=>dM (·+1) (vP.len (N:=N) (c:=c) h.2.2)
 | [],_::_,h=>h.elim
 | _::_,[],h=>h.elim
theorem vP.cp{fs:am}:∀{N:am}{c:List (bi)},vP XN fs N c->∀(i j:Nat) (x:Str),N[i]?=some x->c[i]?=some (some j)->XN[j]?=some x/\x∈fs
 | [],[],_,i,j,x,h1,_=>by simp at h1
 | y::N,none::c,h,i,j,x,h1,h2=>by
  cases i with
  | zero=>simp at h2
  | succ i=>exact vP.cp (N:=N) (c:=c) h i j x (by simpa using h1) (by simpa using h2)
 | y::N,some k::c,h,i,j,x,h1,h2=>by
  cases i with
  | zero=>
   simp at h1 h2;subst h1 h2;exact⟨h.1,h.2.1⟩
  | succ i=>exact vP.cp (N:=N) (c:=c) h.2.2 i j x (by simpa using h1) (by simpa using h2)
 | [],_::_,h,_,_,_,_,_=>h.elim
 | _::_,[],h,_,_,_,_,_=>h.elim
def sV{X:Cx}{scope:Scope}{N:am}(fs:am)(kind:scope.kind=.function)(nocell:∀y∈scope.names,y.2≠.cell)(nm:∀y∈scope.names,y.2=.local->scope.names.lookup y.1=some .local)
  (nolf:∀y∈scope.names,y.2=.free->scope.names.lookup y.1≠some .local) (hf:∀y∈scope.names,y.2=.free->y.1∈fs) (hfs:∀x∈fs,(x,NameKind.free)∈scope.names) (hk:∀x∈fs,X.env.kindOf x=some .cell\/X.env.kindOf x=some .free) (cp:vP X.N fs N cap):CpScope X scope N cap where
 kind:=kind
 nocell:=nocell
 nm:=nm
 fr:=λy hy e=>hk _ (hf y hy e)
 rl:=λy h=>by
  have go:∀k,(k=NameKind.cell\/k=NameKind.free)->(relabel scope X.env).names.lookup y=some k->(y,NameKind.free)∈scope.names:=λk hk e=>by
   obtain⟨⟨n',k'⟩,hm1,hm2⟩:=bA.mp (wN e);dsimp only at hm2;split at hm2
   ·rename_i hc
    cases hm2
    have:k'=.free:=by
     dsimp[c6]at hc;simpa using hc.1.1
    subst this;exact hm1
   ·cases hm2
    rcases hk with rfl|rfl
    ·exact absurd rfl (nocell _ hm1)
    ·exact hm1
  rcases h with h|h
  ·exact go _ (.inl rfl) h
  ·exact go _ (.inr rfl) h
 len:=cp.len
 nolf:=λx hx=>nolf (x,.free) hx rfl
 cp:=λi j x h1 h2=>by
  obtain⟨a,b⟩:=cp.cp i j x h1 h2;exact⟨a,hfs x b⟩
inductive Kd where
 | non|bl|int|str|lst|tup
 deriving DecidableEq
abbrev Kd.ty:Kd->af
 | .non=>.type "NoneType" | .bl=>.type "bool" | .int=>.type "int" | .str=>.type "str" | .lst=>.type "list" | .tup=>.type "tuple"
section
variable {X:Cx}
def Ft(hc:X.calm=true):jE X (.builtin "max") (λxs H Q=>∃(p:ak) (ns:ae),xs=[.ref p]/\mw X.K H p (ns.map V.int)/\0<ns.length/\∀M,M∈ns->(∀a∈ns,a<=M)->Q (.int M) H):=by
 k_ne;obtain⟨p,ns,rfl,hq,hne,q⟩:=h;gp_on
 cases rx
 obtain⟨its,rv,pl,hz⟩:=I.list hq;have hi:=intsAre_of rv;have hl:=pl.isList;obtain⟨ys,e⟩:=hi.allInts.items;have hns:ns=ys.toList.map (·.1):=by
  rw[<- hi.numsOf,<- nums_intItems,<- e]
 have hsz:0<ys.size:=by
  have h3:=hne;rw[hns,aK,cJ]at h3;exact h3
 rw[e]at hl;refine max_intList (I.ok.hd hc) hl hsz λv h' tk hv hk=>?_;obtain⟨t,rfl⟩:=intItems_at hv;obtain⟨h1,h2⟩:=argBest_gt (numAt ys) (ys.size-1);refine⟨.int _,H,I.kept hk,⟨t,rfl⟩,q _ ?_ λa ha=>?_⟩
 ·rw[hns,numAt_eq];exact getD_mem (by rw[aK,cJ];lia)
 ·rw[hns]at ha;obtain⟨j,hj,rfl⟩:=mem_getD ha;rw[aK,cJ]at hj;rw[<- numAt_eq];exact h2 j ()
end
section
variable {prog:aj}{w:ah}{A:aA}{E:af->aC->Prop}{s:aC}
def Cd(n:Nat):Builtin.Slice.sliceAdjust none none (-1) (n:Int)=((n:Int)-1,-1):=by
 unfold Builtin.Slice.sliceAdjust;rfl
def BW(n:Nat):Builtin.Slice.slicePlaces ((n:Int)-1) (-1) (-1)=n:=by
 unfold Builtin.Slice.slicePlaces;have h1:¬((-1:Int)>0):=by decide
 dsimp[h1,cE];by_cases h:n=0
 ·subst h;simp
 ·rw[aN ()];rw[show(- -1:Int)=1 by decide,Int.ediv_one]
  lia
def t7{t:Tok}{n:Nat}{Q:Int×Int×Nat->aC->Prop}(hs:s.heap.IsSliceOf sl .none .none (.int (-1) t))
  (h:Q ((n:Int)-1,-1,n) s):wpAny (model prog w) A (Builtin.Slice.sliceApplied (.ref sl) (pure (n:Int))) Q E s:=by
 obtain⟨os,hos,hcs,hds⟩:=id hs;unfold Builtin.Slice.sliceApplied Builtin.Slice.sliceFields;refine aH (aH (dU hos hds (x:=.none) rfl (aH (dU hos hds (x:=.none) rfl (aH (dU hos hds (x:=.int (-1) t) rfl (aL ?_)))))));refine aH (slicePart_int ?_)
 skip
 rw[aM ⋯];refine aH (slicePart_none (aH (slicePart_none (aH (aL ?_)))));show wpAny _ _ (match Builtin.Slice.sliceAdjust none none (-1) (n:Int)with|(lo,hi)=>pure (lo,(-1:Int),Builtin.Slice.slicePlaces lo hi (-1))) _ _ s;rw[Cd n];show wpAny _ _ (pure ((n:Int)-1,(-1:Int),Builtin.Slice.slicePlaces ((n:Int)-1) (-1) (-1))) _ _ s;rw[BW];exact aL h
def Kv(xs:Array af):((List.range xs.size).filterMap λ(m:Nat)=>xs[((xs.size:Int)-1+(m:Int) * (-1)).toNat]?).toArray=xs.toList.reverse.toArray:=by
 have e:(λ(m:Nat)=>xs[((xs.size:Int)-1+(m:Int) * (-1)).toNat]?)=(λx=>xs[x]?) ∘ λk=>xs.size-1-k:=by
  funext m
  have:((xs.size:Int)-1+(m:Int) * (-1)).toNat=xs.size-1-m:=()
  show xs[((xs.size:Int)-1+(m:Int) * (-1)).toNat]?=xs[xs.size-1-m]?;rw[this]
 rw[e,<- g_,PySem.W.krv_range,List.filterMap_reverse,PySem.W.krv_all]
def sH{t:ak}{items:Array af}{Q:af->aC->Prop}(ht:IsTup s.heap t items)(hs:s.heap.IsSliceOf sl .none .none (.int (-1) tk))
  (h:Q (.ref s.heap.objs.size) { s with heap:=s.heap.push { cls:=.type "tuple",data:=.seq items.toList.reverse.toArray }})
  (hsz:items.size<=sizeLine):wpAny (model prog w) A (getItem (.ref t) (.ref sl)) Q E s:=by
 have htake:sizeOk (.seq items.toList.reverse.toArray):=by
  show items.toList.reverse.toArray.size<=sizeLine;rw[aQ,c9,cJ];exact hsz
 obtain⟨os,hos,hcs,hds⟩:=id hs;have hTs:s.TypeIs (.ref sl) "slice" := ⟨os,hos,hcs⟩;unfold getItem
 try with_reducible refine di ?_
 first|refine aH (aL ?_)|skip
 refine aH (wpAny_sequenceKey ht.typeIs ⋯ ?_);refine aH (eE (name:=Str.ofString "__getitem__") ht.typeIs cj
  (c5 cj ht.typeIs entry_tuple_getitem ?_ (args_tuple_getitem _ _)))
 show wpAny _ _ (Builtin.Tuple.tupleItemsOf (.ref t) >>= _) _ _ s;refine aH (tupleItemsOf_ ht ?_);refine aH (iL hTs ?_);rw[aN ⋯];refine aH (t7 hs ?_);have hno:¬((((items.size:Int)-1) == 0 && (-1:Int) == 1 && items.size == items.size)=true):=by
  intro q;rw[c6,c6]at q;exact absurd q.1.2 ⋯
 show wpAny _ _ (if (((items.size:Int)-1) == 0 && (-1:Int) == 1 && items.size == items.size)=true then _ else _) _ _ s;rw[aM hno,Kv]
 first
  | exact aH (m:=Builtin.Tuple.tupleExact _) (bM (aL ⟨_,rfl,aL h⟩) htake)
  | exact aH (m:=Builtin.Tuple.tupleExact _) (bM (aH (aL (aL ⟨_,rfl,aL h⟩))) htake)
  | exact aH (aH (m:=Builtin.Tuple.tupleExact _) (bM (aL (aL ⟨_,rfl,aL h⟩)) htake))
  | exact aH (aH (m:=Builtin.Tuple.tupleExact _) (bM (aL ⟨_,rfl,aL h⟩) htake))
end
section
variable {X:Cx}
abbrev Q7 (K:au)(te:TE):TE:=λσ H Q=>te σ H λx H1=>∃a xs,x=.ref a/\mz K H1 a xs/\∀p,H1 p=none->Q (.ref p) (upd H1 p (.tup xs.reverse))
def Dr{e:aE}{te:TE}{up cp:Pos}{kk:Nat}(he:PE X e te):PE X (.Subscript e (.Slice none none (some (.UnaryOp .USub (.Constant (.int 1) kk cp) up)) p2) pos) (Q7 X.K te):=by
 x_go;refine Subscript_ (j3 (he pins s σ H _ I h) λv s1 ⟨x,H1,I1,r1,a,xs,ex,hq,q⟩=>?_);subst ex
 cases r1
 refine wpAny_Slice ?_;rw[iE];refine aL ?_;refine aL ?_;rw[evalPart_some];refine j3 ((Ie (a:=.Constant (.int 1) kk cp) BJ B_) pins s1 σ H1 (λv H'=>v=.int (-1)/\H'=H1) I1 ⟨1,rfl,rfl,rfl⟩) λvs s3 h9=>?_;obtain⟨y,H3,I3,r3,ey,eH⟩:=h9;subst ey eH;obtain⟨t,rfl⟩:=r3;have I4:Inv X pins σ H3 { s3 with heap:=s3.heap.push { cls:=.type "slice",data:=.fields #[.none,.none,.int (-1) t]}}:=I3.kept (t':=s3.toks) λb ob q=>aO _ q;obtain⟨its,rv,pl,hz⟩:=I4.tuple hq
 skip
 refine tail_any (ops:=[.ref a,.ref s3.heap.objs.size]) pl.typeIs cj.lookup ?_ (by with_unfolding_all rfl);have hlen:=rv.length;refine sH pl (h_ ..) ?_ (by rw[aQ]<;>lia);refine⟨.ref _,_,I4.laid (t':=s3.toks) (o:=.tup xs.reverse) (λb o e=>aO _ e) (aP _) ⟨by rw[c9];exact hz,its.reverse,rv.reverse,?_⟩,rfl,q _ I4.fresh⟩;exact mJ.new _ _
abbrev Rf (K:au):V->V->Hp->VK->Prop:=λo i H Q=>∃p xs k v,o=.ref p/\i=.int k/\mw K H p xs/\0<=k/\xs[k.toNat]?=some v/\Q v H
def Ji:PD X (Rf X.K):=by
 intro pins s σ H o i ov iv Q I ro ri h;obtain⟨p,xs,k,v,rfl,rfl,hq,h0,hv,q⟩:=h
 cases ro
 obtain⟨t,rfl⟩:=ri;obtain⟨its,r,pl,hz⟩:=I.list hq;obtain⟨u,eu,ru⟩:=r.get hv;have hl:=r.length;have hn:=qy;have hk:k.toNat<xs.length:=(aJ.mp hv).1;exact wpAny_getItem_list pl.isList h0 () (by simpa using eu) ⟨v,H,I,ru,q⟩
end
def yx(elt t1 i1 t2 i2:aE)(f1 f2:List aE)(scope:Scope)(pos:Pos)(it acc:af)(env:Env) :
  compTurn (.ListComp elt [⟨t1,i1,f1,0⟩,⟨t2,i2,f2,0⟩] scope pos) 0 it acc env=(do
   standAt i1.pos
   match <- pyNext it with
   | none=>pure (.done .next)
   | some v=>
    letOwnedTupleGo t1 it v
    assign t1 env v
    let mut ok:=true
    for c in f1 do
     if ok then ok <- isTrue c env (eval c env)
    if ok then
     let x <- eval i2 env
     standAt i2.pos
     let x <- foldedSetIterable i2 env x
     let _ <- runOwn (.compStart (.ListComp elt [⟨t1,i1,f1,0⟩,⟨t2,i2,f2,0⟩] scope pos) 1 (<- holding [x] (pyIter x)) acc env) env
    again (.compLoop (.ListComp elt [⟨t1,i1,f1,0⟩,⟨t2,i2,f2,0⟩] scope pos) 0 it acc env)):=by rfl
def yu(elt t1 i1 t2 i2:aE)(f1 f2:List aE)(scope:Scope)(pos:Pos)(it acc:af)(env:Env) :
  compTurn (.ListComp elt [⟨t1,i1,f1,0⟩,⟨t2,i2,f2,0⟩] scope pos) 1 it acc env=(do
   standAt i2.pos
   match <- pyNext it with
   | none=>pure (.done .next)
   | some v=>
    letOwnedTupleGo t2 it v
    assign t2 env v
    let mut ok:=true
    for c in f2 do
     if ok then ok <- isTrue c env (eval c env)
    if ok then
     (do let _ <- call (.builtin "list.append") [acc,<- eval elt env])
    again (.compLoop (.ListComp elt [⟨t1,i1,f1,0⟩,⟨t2,i2,f2,0⟩] scope pos) 1 it acc env)):=by rfl
section
variable {prog:aj}{w:ah}{A:aA}{R:Result->aC->Prop}{s:aC}
def qh{f1 f2:List aE}{acc:af}{env:Env}
  (h0:codeAny (model prog w) A (.compLoop (.ListComp elt [⟨t1,i1,f1,0⟩,⟨t2,i2,f2,0⟩] scope pos) 1 it acc env) R s)
  (h:wpAny (model prog w) A (pyIter it) (λit' s'=>codeAny (model prog w) A (.compLoop (.ListComp elt [⟨t1,i1,f1,0⟩,⟨t2,i2,f2,0⟩] scope pos) 1 it' acc env) R s')
   (notedBy (model prog w) A env λx s'=>R (.error x) s') s) :
  codeAny (model prog w) A (.compStart (.ListComp elt [⟨t1,i1,f1,0⟩,⟨t2,i2,f2,0⟩] scope pos) 1 it acc env) R s:=by
 refine codeAny_of_tree ?_
 skip
 refine wpAny_notedAt ?_;unfold compStart
 skip
 refine aH (wpAny_askSetting (wpAny_ite ?_));split
 ·first
   | exact aH (aL (aL (anI rfl h0)))
   | exact aL (anI rfl h0)
 ·first
   | exact aH (fh (aH (d_ (aH (eN h (λit' s' h'=>aL (anI rfl h')) λ_ _ x=>x)))))
   | (refine aH (fh ?_);show wpAny _ _ (standAt i2.pos >>= _) _ _ s;exact aH (d_ (aH (eN h (λit' s' h'=>aL (anI rfl h')) λ_ _ x=>x))))
end
abbrev IJ (g:TG)(tc:TT)(te:TE)(D:ak)(Nn:L2.St->Hp->Prop)(σ:L2.St)(J:It)(H1:Hp):Prop:=
 ∃V:Nat->Nat->L2.St->Hp->Prop,(∃m,V 0 m σ H1)/\∀i m σ' H',V i m σ' H' ->
  (J.stop i H'/\Nn σ' H')\/(J.go i H'/\∀x H2,J.yld i H' x H2->g x σ' H2 λσ3 H3=>tc σ3 H3 λb H4=>
   if b=true then te σ3 H4 λy H5=>∃ys,H5 D=some (.lst ys)/\ys.length<sizeLine/\∃m',m'<m/\V (i+1) m' σ3 (upd H5 D (.lst (ys++[y])))
   else ∃m',m'<m/\V (i+1) m' σ3 H4)
def B8{Z:Cx}{f1:List aE}{fp:ar}{D:ak}{tn:Nat->aq->Prop}{H:Hp}{s:aC}{g:TG}{tc:TT}{te:TE}{Nn:L2.St->Hp->Prop}
  (hc:Z.calm=true) (hxe:Z.xe=λ_ _=>False) (T:Turn Z.prog Z.w Z.K tg J fp it tn) (I:Inv Z pins σ H s) (st:tn 0 s.heap) (hf:∀b∈fp,qx Z pins H b) (hg:PG Z tg g) (ht:KI Z ifs tc) (he:PE Z elt te) (goal:IJ g tc te D Nn σ J H) :
  codeAny (model Z.prog Z.w) Z.A (.compLoop (.ListComp elt [⟨t1,i1,f1,0⟩,⟨tg,i2,ifs,0⟩] scope pos) 1 (.ref it) (.ref D) Z.env) (λr s'=>r=.ok .next/\∃σ' H',Inv Z pins σ' H' s'/\Nn σ' H') s:=by
 obtain⟨V,⟨m0,v0⟩,turn⟩:=goal;have stat:∀{H':Hp},(∀b∈fp,H' b=none)->∀b∈fp,qx Z pins H' b:=λhn b hb=>⟨hn b hb,(hf b hb).2⟩;refine codeAny_loop rfl (λn s'=>∃i σ' H',Inv Z pins σ' H' s'/\tn i s'.heap/\(∀b∈fp,H' b=none)/\V i n σ' H') (λn s5 hI=>?_) m0 ⟨0,σ,H,I,st,λb hb=>(hf b hb).1,v0⟩;obtain⟨i,σ5,H5,I5,st5,fr5,w5⟩:=hI
 skip
 refine wpAny_noted ?_;rw[yu];refine aH (d_ (aH ?_))
 rcases turn i n σ5 H5 w5 with⟨stop,q⟩|⟨go,step⟩
 ·refine j3 (T.done Z rfl rfl rfl hc i pins s5 σ5 H5 _ I5 (stat fr5) st5 stop) λr s6 h9=>?_;obtain⟨hr,I6⟩:=h9;subst hr;exact aL ⟨rfl,σ5,H5,I6,q⟩
 ·refine j3 (T.item Z rfl rfl rfl hc i pins s5 σ5 H5 _ I5 (stat fr5) st5 go) λr s6 h9=>?_;obtain⟨u,hr,h6⟩:=h9;subst hr;refine aH (j3 h6 λ_ s7 ⟨x,H7,I7,r7,y7,st7,fr7⟩=>?_);have I7':=I7.pinned (stat fr7) (T.obj _ _ st7);have toF:∀{α:Type} {t:Sem α} {Q Q':α->aC->Prop} {E:af->aC->Prop} {s:aC},wpAny (model Z.prog Z.w) Z.A t Q Z.xe s->(∀a s,Q a s->Q' a s)->wpAny (model Z.prog Z.w) Z.A t Q' E s:=λh hQ=>by
   rw[hxe]at h;exact y9 h hQ
  refine aH (toF (hg _ s7 σ5 H7 x u _ I7' r7 (step x H7 y7)) λ_ s8 ⟨σ8,H8,I8,q8⟩=>?_);refine aH (toF (ht _ s8 σ8 H8 _ I8 q8) λok s9 ⟨H9,I9,q9⟩=>?_);have again:∀{s10:aC} {H10:Hp},Inv Z (pins++rA fp s7.heap) σ8 H10 s10->(∃m',m'<n/\V (i+1) m' σ8 H10) ->
    ∃m,m<n/\∃i σ' H',Inv Z pins σ' H' s10/\tn i s10.heap/\(∀b∈fp,H' b=none)/\V i m σ' H':=λ{s10 H10} I10 h9=>by
   obtain⟨m',hm,w10⟩:=h9;refine⟨m',hm,i+1,σ8,H10,I10.nY,T.keep _ _ _ st7 λb hb o e=>(I10.pin (b,o) (aX _ (aX _ (kh hb e)))).1,λb hb=>?_,w10⟩;obtain⟨o,e,d⟩:=T.obj _ _ st7 b hb;exact(I10.pin (b,o) (aX _ (aX _ (kh hb e)))).2.1
  cases ok with
  | false=>
   rw[aM bq]at q9;exact aL ⟨rfl,again I9 q9⟩
  | true=>
   rw[aN rfl]at q9;refine aH (aH (toF (he _ s9 σ8 H9 _ I9 q9) λy s10 ⟨v10,H10,I10,r10,ys,hD,hz,w10⟩=>?_));refine aH (toF (tY _ s10 σ8 H10 (.ref D) [v10] _ [y] (λ_ H'=>H'=upd H10 D (.lst (ys++[v10]))) I10 rfl (.cons r10 .nil) ⟨_,ys,v10,rfl,rfl,hD,hz,rfl⟩) λ_ s11 ⟨_,H11,I11,_,e11⟩=>?_);subst e11;exact aL (aL ⟨rfl,again I11 w10⟩)
abbrev KN (cap:List (bi))(g:TG)(tc:TT)(wi2:TI)(g2:TG)(tc2:TT)(te:TE)(σ:L2.St)(Q:VK)(J:It)(H1:Hp):Prop:=∀D,H1 D=none ->
 ∃W:Nat->Nat->L2.St->Hp->Prop,(∃m,W 0 m (cap.map (KY σ)) (upd H1 D (.lst [])))/\∀i m σ' H',W i m σ' H' ->
  (J.stop i H'/\Q (.ref D) H')\/(J.go i H'/\∀x H2,J.yld i H' x H2->g x σ' H2 λσ3 H3=>tc σ3 H3 λb H4=>
   if b=true then wi2 σ3 H4 (IJ g2 tc2 te D (λσ5 H5=>∃m',m'<m/\W (i+1) m' σ5 H5) σ3)
   else ∃m',m'<m/\W (i+1) m' σ3 H4)
abbrev TM (cap:List (bi))(wi:TI)(g:TG)(tc:TT)(wi2:TI)(g2:TG)(tc2:TT)(te:TE):TE:=λσ H Q=>wi σ H (KN cap g tc wi2 g2 tc2 te σ Q)
def Og{X:Cx}{iter:aE}{N:am}{wi wi2:TI}{g g2:TG}{tc tc2:TT}{te:TE}(hc:X.calm=true)(S:CpScope X scope N cap)(hi:PI X tg iter wi)
  (hg:∀C s₀ H₀ ex,PG (jW X scope N C s₀ H₀ ex) tg g) (ht:∀C s₀ H₀ ex,KI (jW X scope N C s₀ H₀ ex) ifs tc) (hi2:∀C s₀ H₀ ex,PI (jW X scope N C s₀ H₀ ex) tg2 iter2 wi2)
  (hg2:∀C s₀ H₀ ex,PG (jW X scope N C s₀ H₀ ex) tg2 g2) (ht2:∀C s₀ H₀ ex,KI (jW X scope N C s₀ H₀ ex) ifs2 tc2) (he:∀C s₀ H₀ ex,PE (jW X scope N C s₀ H₀ ex) elt te)
  (hs:∀x,foldedSetIterable iter X.env x=pure x:=by intro _;rfl) (hs2:∀env x,foldedSetIterable iter2 env x=pure x:=by intro _ _;rfl):PE X (.ListComp elt [⟨tg,iter,ifs,0⟩,⟨tg2,iter2,ifs2,0⟩] scope pos) (TM cap wi g tc wi2 g2 tc2 te):=by
 x_go;kcf_m;rw[eval_ListComp];refine wpAny_comprehension_free (use:=none) rfl hs (wk hfree) S.kind S.nm (j3 (hi pins s σ H _ I h) λxv s1 h1=>j3 h1 λitv s2 h2=>?_);obtain⟨it,fp,tn,J,H2,rfl,I2,T,st2,f2,h2⟩:=h2;refine bM (wpAny_newFunctionEnv S.nocell (by intro y hy;simp at hy) (λh₁ hns₁ hsb₁=>?_) S.kind);obtain⟨W,⟨m0,w0⟩,turn⟩:=h2 s2.heap.objs.size I2.fresh;dsimp only at hns₁ hsb₁ ⊢;have I3:Inv X pins σ (upd H2 s2.heap.objs.size (.lst [])) { s2 with heap:=s2.heap.push {}}:=I2.GL (t':=s2.toks) (its:=[]) .nil (cF _);have hfp:∀b∈fp,∃o,s2.heap.get? b=some o:=λb hb=>by
  obtain⟨o,e,_⟩:=T.obj 0 _ st2 b hb;exact⟨o,e⟩
 have neD:∀b∈fp,b≠s2.heap.objs.size:=λb hb=>by
  obtain⟨o,e⟩:=hfp b hb;exact bE (bf e)
 have f3:∀b∈fp,qx X pins (upd H2 s2.heap.objs.size (.lst [])) b:=λb hb=>⟨by rw[jl (neD b hb)];exact(f2 b hb).1,(f2 b hb).2⟩;have hDC:s2.heap.objs.size≠(s2.heap.push {}).objs.size:=by rw[eF];exact bE (cP _)
 have old:∀b o,(s2.heap.push {}).get? b=some o->h₁.get? b=some o:=λb o e=>hsb₁.extBut b o (bE (bf e)) (aO _ e);have I4:=GD (tk:=s2.toks+([]:List (Str×af)).length) (fp:=fp) S I3 f3 (λb hb=>by
  obtain⟨o,e⟩:=hfp b hb;exact⟨o,aO _ e⟩) hns₁ old
 have st4:tn 0 h₁:=T.keep _ _ _ st2 λb hb o e=>old b o (aO _ e);have stat:∀{H':Hp},(∀b∈fp,H' b=none)->∀b∈fp,qx (jW X scope N (s2.heap.push {}).objs.size { s2 with heap:=s2.heap.push {}} (upd H2 s2.heap.objs.size (.lst [])) fp) [] H' b:=λhn b hb=>by
  have ok:=I4.ok;refine⟨hn b hb,(ok.exf b hb).1,ok.exfs b hb,.inl hb,λx c e=>(ok.exf b hb).2 x c e,λp hp=>nomatch hp⟩
 have loop:∀s4:aC,s4={ s2 with heap:=h₁,toks:=s2.toks+([]:List (Str×af)).length } ->
   codeAny (model X.prog X.w) X.A (.compLoop (.ListComp elt [⟨tg,iter,ifs,0⟩,⟨tg2,iter2,ifs2,0⟩] scope pos) 0 (.ref it) (.ref s2.heap.objs.size) (compEnvC scope (uT X.env scope.names []) (s2.heap.push {}).objs.size X.env))
    (compPost (model X.prog X.w) X.A X.xe none (EP X pins σ Q) (.ref s2.heap.objs.size) (s2.heap.push {}).objs.size) s4:=by
  rintro s4 rfl;refine codeAny_loop rfl (λn s'=>∃i σ' H',Inv (jW X scope N (s2.heap.push {}).objs.size { s2 with heap:=s2.heap.push {}} (upd H2 s2.heap.objs.size (.lst [])) fp) [] σ' H' s'/\tn i s'.heap/\(∀b∈fp,H' b=none)/\W i n σ' H') (λn s5 hI=>?_) m0 ⟨0,_,_,I4,st4,λb hb=>(f3 b hb).1,w0⟩;obtain⟨i,σ5,H5,I5,st5,fr5,w5⟩:=hI
  skip
  refine wpAny_noted ?_;rw[yx];refine aH (d_ (aH ?_))
  rcases turn i n σ5 H5 w5 with⟨stop,q⟩|⟨go,step⟩
  ·refine j3 (T.done (jW X scope N (s2.heap.push {}).objs.size { s2 with heap:=s2.heap.push {}} (upd H2 s2.heap.objs.size (.lst [])) fp) rfl rfl rfl hc i [] s5 σ5 H5 _ I5 (stat fr5) st5 stop) λr s6 h9=>?_;obtain⟨hr,I6⟩:=h9;subst hr;obtain⟨m6,hn6,_⟩:=I6.loc;refine aL ⟨m6,hn6,λh' sb=>?_⟩;have u6:=I6.base;have nC:∀b o,(s2.heap.push {}).get? b=some o->b≠(s2.heap.push {}).objs.size:=λb o e=>bE (bf e);refine⟨.ref s2.heap.objs.size,H5,?_,rfl,q⟩;refine I3.Km (ch:=fp) I6.os ⟨λb o e n hb hx=>?_,λb o e n hb hx=>?_,λb o e n hx=>?_,λb o e hx=>?_,u6.tups,u6.frzs,u6.tbls⟩ ?_ I6.bare ?_
   ·exact sb.extBut b o (nC b o e) (u6.keep b o e n hb hx)
   ·obtain⟨sl,z⟩:=u6.slot b o e n hb hx;exact⟨sl,sb.extBut b _ (nC b o e) z⟩
   ·exact u6.free b o e n hx
   ·obtain⟨o',z⟩:=u6.there b o e hx;exact⟨o',sb.extBut b _ (nC b o e) z⟩
   ·intro b o e;have hb:∀c v,H5 c=some v->c≠(s2.heap.push {}).objs.size:=λc v e z=>by
     rw[z]at e;have:=I6.free;rw[show H5 (s2.heap.push {}).objs.size=none from this]at e
     cases e
    refine(I6.hok b o e).stay (λc v hc q=>sb.extBut c v ?_ q) (λ_ q=>q) λ_ _ q=>q
    rcases hc with z|z
    ·rw[z];exact hb b o e
    ·exact hb c _ z
   ·intro b hb;obtain⟨_,z1,_,z3,z4,z5⟩:=f3 b hb;exact⟨z3,z1,z4,z5⟩
  ·refine j3 (T.item (jW X scope N (s2.heap.push {}).objs.size { s2 with heap:=s2.heap.push {}} (upd H2 s2.heap.objs.size (.lst [])) fp) rfl rfl rfl hc i [] s5 σ5 H5 _ I5 (stat fr5) st5 go) λr s6 h9=>?_;obtain⟨u,hr,h6⟩:=h9;subst hr;refine aH (j3 h6 λ_ s7 ⟨x,H7,I7,r7,y7,st7,fr7⟩=>?_);have I7':=I7.pinned (stat fr7) (T.obj _ _ st7);refine aH (y9 (hg _ _ _ fp _ s7 σ5 H7 x u _ I7' r7 (step x H7 y7)) λ_ s8 ⟨σ8,H8,I8,q8⟩=>?_);refine aH (y9 (ht _ _ _ fp _ s8 σ8 H8 _ I8 q8) λok s9 ⟨H9,I9,q9⟩=>?_);have again:∀{s10:aC} {H10:Hp} {σ10:L2.St},Inv (jW X scope N (s2.heap.push {}).objs.size { s2 with heap:=s2.heap.push {}} (upd H2 s2.heap.objs.size (.lst [])) fp) ([]++rA fp s7.heap) σ10 H10 s10->(∃m',m'<n/\W (i+1) m' σ10 H10) ->
     ∃m,m<n/\∃i σ' H',Inv (jW X scope N (s2.heap.push {}).objs.size { s2 with heap:=s2.heap.push {}} (upd H2 s2.heap.objs.size (.lst [])) fp) [] σ' H' s10/\tn i s10.heap/\(∀b∈fp,H' b=none)/\W i m σ' H':=λ{s10 H10 σ10} I10 h9=>by
    obtain⟨m',hm,w10⟩:=h9;refine⟨m',hm,i+1,σ10,H10,I10.nY,T.keep _ _ _ st7 λb hb o e=>(I10.pin (b,o) (aX _ (aX _ (kh hb e)))).1,λb hb=>?_,w10⟩;obtain⟨o,e,d⟩:=T.obj _ _ st7 b hb;exact(I10.pin (b,o) (aX _ (aX _ (kh hb e)))).2.1
   cases ok with
   | false=>
    rw[aM bq]at q9;exact aL ⟨rfl,again I9 q9⟩
   | true=>
    rw[aN rfl]at q9;refine aH (y9 (hi2 _ _ _ fp _ s9 σ8 H9 _ I9 q9) λxv s10 h10=>aH (d_ ?_));rw[hs2];refine aH (aL (aH (di (y9 h10 λitv s11 h11=>?_))));obtain⟨it2,fp2,tn2,J2,H11,rfl,I11,T2,st11,f11,goal⟩:=h11;have hcz:=hc;have EY:=(λ(Z:Cx) (h1:Z.calm=true) (h2:Z.xe=λ_ _=>False) T2 I11=>B8 (Z:=Z) (t1:=tg) (i1:=iter) (f1:=ifs) (i2:=iter2) (scope:=scope) (pos:=pos) h1 h2 T2 I11) _ (show(jW X scope N _ _ _ fp).calm=true from hcz) rfl T2 I11 st11 f11 (hg2 _ _ _ fp) (ht2 _ _ _ fp) (he _ _ _ fp) goal;refine aH (wpAny_runOwn (g8 (qh EY (T2.self _ 0 _ _ _ st11 EY)) λr s12 hr12=>?_));obtain⟨hr,σ12,H12,I12,n12⟩:=hr12;subst hr;exact aL ⟨rfl,again I12 n12⟩
 exact codeAny_compStart_list (loop _ rfl) (T.self _ 0 _ _ _ st4 (loop _ rfl))
end L2
namespace L2
open PySem PySem.Spec PyProof.Rows
open PySem.SeqAt
open PySem.AutoSeq1 (wpAny_loadPart')
open PySem.MeetsSeq PySem.MeetsSeq2 PySem.MeetsSeq3 PySem.SeqAt
section
variable {X:Cx}
def Ge:nq X (binaryOp .FloorDiv) (rI (λ_ j=>0<j/\j<18446744073709551616) λi j=>.int (i / j)):=Th λi j _ _ _ _ _ hc q=>by
 have h1:(0:Int)<j:=hc.1;have h2:j<18446744073709551616:=hc.2;refine floordiv_int (by omega) (by rw[Int.fdiv_eq_ediv_of_nonneg i (by omega)];exact q) (.inl (PyProof.noPylong_of_log2 ?_));exact bL ((Nat.log2_lt (by omega)).mpr (show j.natAbs<2 ^ 64 by omega)) ⋯
end
end L2
namespace L2
open PySem PySem.Spec PyProof.Rows
abbrev Um (x:Str):It:=⟨λi _=>i<x.cps.size,λi H v H'=>H'=H/\∃c,x.cps[i]?=some c/\v=.str ⟨#[c]⟩,λi _=>i=x.cps.size⟩
def JT{P:aj}{w:ah}{K:au}(x:Str)(t:Tok)(it:ak):Turn P w K tg (Um x) [it] it (λi h=>h.IsStrIter it "str_ascii_iterator" x t i) where
 mem:=by simp
 obj:=λi h st b hb=>by
  have e:b=it:=by simpa using hb
  subst e;obtain⟨o,e,c,d⟩:=st;exact⟨o,e,λv z=>by rw[d]at z;cases z⟩
 keep:=λi h h' st k=>let⟨o,ho,r⟩:=st;⟨o,k it (by simp) o ho,r⟩
 item:=by
  w_up;subst hP hw hK;gn_on;have W:=Walks.strAscii (prog:=X.prog) (w:=X.w) (I.ok.hd hc) it x t;refine W.item i s _ _ hg st λv h' tk hv st' kk=>?_;obtain⟨c,u,hcx,rfl⟩:=hv;have I1:Inv X pins σ H { s with heap:=h',toks:=tk }:=I.turned (λb o hb e=>kk b o (by simpa using hb) e) f0 f1 f3 f4 f5;obtain⟨o,e,cc,d⟩:=id st';exact⟨_,rfl,CF (s:={ s with heap:=h',toks:=tk }) e cc d ⋯ ⟨.str ⟨#[c]⟩,H,I1,⟨u,rfl⟩,⟨rfl,c,hcx,rfl⟩,st',λb hb=>(hf b hb).1⟩⟩
 done:=by
  w_up;subst hP hw hK;gn_on;have hg:i=x.cps.size:=hg;subst hg;have W:=Walks.strAscii (prog:=X.prog) (w:=X.w) (I.ok.hd hc) it x t;exact W.done s _ _ st λh' tk kk=>⟨rfl,I.turned (λb o hb e=>kk b o (by simpa using hb) e) f0 f1 f3 f4 f5⟩
 self:=λ_ _ _ _ _ st h=>wpAny_pyIter_striter_ascii st h
section
variable {X:Cx}{tg:aE}
abbrev Ui (tl:TE):TI:=λσ H R=>tl σ H λx H1=>∃y:Str,x=.str y/\y.cps.all (· < 128)=true/\R (Um y) H1
def Qi{tl:TE}(hl:PE X l tl):PI X tg l (Ui tl):=by
 intro pins s σ H R I h;refine j3 (hl pins s σ H _ I h) λv s1 h9=>?_;obtain⟨x,H1,I1,r1,q1⟩:=h9;obtain⟨y,e,ha,q⟩:=q1;subst e;obtain⟨t,rfl⟩:=r1;refine wpAny_pyIter_ascii ha ?_;refine⟨s1.heap.objs.size,[s1.heap.objs.size],_,_,H1,rfl,I1.kept (t':=s1.toks) λb o e=>aO _ e,JT y t _,⟨_,bu _ rfl,rfl,rfl⟩,λb hb=>?_,q⟩;have e:b=s1.heap.objs.size:=by simpa using hb
 subst e;exact I1.Fe (aP _) (I1.hok.fresh (aP _))
end
section
variable {κ:Type}[DecidableEq κ]
abbrev tH (kvs:List (κ×V))(k:κ):Option V:=(kvs.find? λkv=>decide (kv.1=k)).map (·.2)
abbrev putK (kvs:List (κ×V))(k:κ)(v:V):List (κ×V):=
 if (kvs.any λkv=>decide (kv.1=k))=true then kvs.map (λkv=>if kv.1=k then(kv.1,v)else kv)else kvs++[(k,v)]
def sL{p:κ×V}{r:List (κ×V)}{k:κ}(e:p.1=k):tH (p::r) k=some p.2:=by simp[tH,dz,e]
def sR{p:κ×V}{r:List (κ×V)}{k:κ}(e:¬p.1=k):tH (p::r) k=tH r k:=by simp[tH,dz,e]
theorem wQ(k:κ):∀kvs:List (κ×V),(kvs.any λkv=>decide (kv.1=k))=(tH kvs k).isSome
 | []=>rfl
 | p::r=>by
  rw[eX];by_cases e:p.1=k
  ·dsimp[sL e,bg e,Bool.true_or,Option.isSome_some]
  ·rw[sR e,a_ e,Bool.false_or];exact wQ k r
def uP(kvs:List (κ×V))(k:κ)(v:V):(putK kvs k v).length<=kvs.length+1:=by
 unfold putK;split
 ·rw[aK];lia
 ·rw[aU,bI,eV];lia
def xx.ud{o:Option V}{u:ba}(r:xx o u):o.isSome=u.isSome:=by
 cases o with
 | none=>cases u with
  | none=>rfl
  | some _=>exact(show False from r).elim
 | some _=>cases u with
  | none=>exact(show False from r).elim
  | some _=>rfl
def KV.val(r:KV kvs vs)(k:κ):xx (tH kvs k) (valueAt vs k):=by
 unfold KV at r
 induction r with
 | nil=>exact True.intro
 | @cons p q ps qs h t ih=>
  obtain⟨h1,h2⟩:=h;by_cases e:p.1=k
  ·have e':q.1=k:=h1.symm.trans e;have b:valueAt (q::qs) k=some q.2:=by simp[valueAt,dz,e']
   rw[sL e,b];exact h2
  ·have e':¬q.1=k:=λz=>e (h1.trans z);have b:valueAt (q::qs) k=valueAt qs k:=by simp[valueAt,dz,e']
   rw[sR e,b];exact ih
def KV.any{kvs:List (κ×V)}{vs:List (κ×af)}(r:KV kvs vs)(k:κ):(kvs.any λkv=>decide (kv.1=k))=vs.any λkv=>decide (kv.1=k):=by
 unfold KV at r
 induction r with
 | nil=>rfl
 | cons h t ih=>rw[eX,eX,ih,h.1]
def KV.repl{kvs:List (κ×V)}{vs:List (κ×af)}(r:KV kvs vs)(k:κ)(ry:RelV y u) :
  KV (kvs.map λkv=>if kv.1=k then(kv.1,y)else kv) (vs.map λkv=>if kv.1=k then(kv.1,u)else kv):=by
 unfold KV at r ⊢
 induction r with
 | nil=>exact .nil
 | @cons p q ps qs h t ih=>
  rw[bX,bX];refine .cons ?_ ih;obtain⟨h1,h2⟩:=h;by_cases e:p.1=k
  ·rw[aN e,aN (h1.symm.trans e)];exact⟨h1,ry⟩
  ·rw[aM e,aM (λz=>e (h1.trans z))];exact⟨h1,h2⟩
def KV.put(r:KV kvs vs)(k:κ)(ry:RelV y u):KV (putK kvs k y) (stored vs k u):=by
 unfold putK stored;rw[r.any k];by_cases e:(vs.any λkv=>decide (kv.1=k))=true
 ·rw[aN e,aN e];exact r.repl k ry
 ·rw[aM e,aM e];exact Paired.snoc r ⟨rfl,ry⟩
def KV.length{kvs:List (κ×V)}{vs:List (κ×af)}(r:KV kvs vs):kvs.length=vs.length:=iD r
end
def DP{P:aj}{w:ah}{k:Key}(r:RelV (kV k) u):(j9 P w).is k u=true:=by
 cases k with
 | inl i=>obtain⟨t,e⟩:=(show ∃t,u=Value.int i t from r);subst e;exact zP P w i t
 | inr x=>obtain⟨t,e⟩:=(show ∃t,u=Value.str x t from r);subst e;exact zN P w x t
theorem xQ{P:aj}{w:ah}:∀{ks:List Key}{us:ap},Vals (ks.map kV) us->ItemsAre (j9 P w) ks us
 | [],_,r=>by rw[map_nil]at r;cases r;exact .nil
 | k::ks,_,r=>by
  rw[bX]at r
  cases r with
  | cons h t=>exact .cons (DP h) (xQ t)
meta abbrev KT (H:Hp):List (List Key×V)->List (List Key×ak×af)->Prop:=Paired λp q=>p.1=q.1/\H q.2.1=some (.tup (p.1.map kV))/\RelV p.2 q.2.2
def KT.val{H:Hp}(r:KT H kvs xs)(k:List Key):xx (tH kvs k) ((atKey xs k).map (·.2)):=by
 induction r with
 | nil=>exact True.intro
 | @cons p q ps qs h t ih=>
  obtain⟨h1,_,h2⟩:=h;by_cases e:p.1=k
  ·have e':q.1=k:=h1.symm.trans e;have b:atKey (q::qs) k=some q.2:=by simp[atKey,dz,e']
   rw[sL e,b];exact h2
  ·have e':¬q.1=k:=λz=>e (h1.trans z);have b:atKey (q::qs) k=atKey qs k:=by simp[atKey,dz,e']
   rw[sR e,b];exact ih
def KT.repl{H:Hp}{kvs:List (List Key×V)}{xs:List (List Key×ak×af)}(r:KT H kvs xs)(k:List Key)(ry:RelV y u) :
  KT H (kvs.map λkv=>if kv.1=k then(kv.1,y)else kv) (xs.map (putAt k u)):=by
 induction r with
 | nil=>exact .nil
 | @cons p q ps qs h t ih=>
  rw[bX,bX];refine .cons ?_ ih;obtain⟨h1,h2,h3⟩:=h;unfold putAt;by_cases e:p.1=k
  ·rw[aN e,aN (h1.symm.trans e)];exact⟨h1,h2,ry⟩
  ·rw[aM e,aM (λz=>e (h1.trans z))];exact⟨h1,h2,h3⟩
def KT.put{H:Hp}(r:KT H kvs xs)(k:List Key)(hb:H b=some (.tup (k.map kV)))(ry:RelV y u) :
  KT H (putK kvs k y) (storedH xs k b u):=by
 have e:(kvs.any λkv=>decide (kv.1=k))=(atKey xs k).isSome:=by
  rw[wQ,(r.val k).ud,isSome_map]
 unfold putK storedH;rw[e];by_cases q:(atKey xs k).isSome=true
 ·rw[aN q,aN q];exact r.repl k ry
 ·rw[aM q,aM q];exact Paired.snoc r ⟨rfl,hb,ry⟩
def KT.keeps{H H':Hp}(r:KT H kvs xs)(ht:∀b ys,H b=some (.tup ys)->H' b=some (.tup ys)):KT H' kvs xs:=
 Paired.O1 r λ_ _ z=>⟨z.1,ht _ _ z.2.1,z.2.2⟩
section
variable {P:aj}{w:ah}{H:Hp}{h:aq}{a:ak}
def Ny(ok:sO P w H h)(e:Rd H a u):kD P w H h a u:=e.ok ok
def EZ{kvs:List (Key×V)}(ok:sO P w H h)(e:Rd H a (.dK kvs)):kvs.length<=sizeLine/\(a == sysModules)=false/\∃vs,KV kvs vs/\h.DictOf (j9 P w) a vs:=
 show kD P w H h a (.dK kvs)from Ny ok e
def QO{kvs:List (Key×V)}(ok:sO P w H h)(e:H a=some (.dK kvs)):kvs.length<=sizeLine/\(a == sysModules)=false/\∃vs,KV kvs vs/\h.DictOf (j9 P w) a vs:=EZ ok (.inl e)
def wL{ks:List Key}(ok:sO P w H h)(e:H a=some (.tup (ks.map kV))):(tupleKind (j9 P w)).is h ks a:=by
 obtain⟨_,its,r,o,h1,h2,_,n,h3⟩:=(show kD P w H h a (.tup (ks.map kV))from ok a _ e);exact⟨o,its.toArray,n,h1,h2,h3,by simpa using xQ r⟩
def Ei{kvs:List (List Key×V)}(ok:sO P w H h)(e:Rd H a (.dT kvs)):kvs.length<=sizeLine/\(a == sysModules)=false /\
  ∃xs,KT H kvs xs/\h.DictOfH (tupleKind (j9 P w)) a xs:=by
 obtain⟨z,y,xs,r,o,es,ep,h1,h2,h3,h4,h5⟩:=(show kD P w H h a (.dT kvs)from Ny ok e);refine⟨z,y,xs,r,o,es,ep,h1,h2,h3,h4,λx hx=>?_,h5⟩;have all:∀{l:List (List Key×V)} {m:List (List Key×ak×af)},KT H l m->∀x∈m,(tupleKind (j9 P w)).is h x.1 x.2.1:=by
  intro l m q
  induction q with
  | nil=>intro x hx;exact nomatch hx
  | @cons p q ps qs hq t ih=>
   intro x hx
   rcases bJ.mp hx with e|hx
   ·subst e;exact wL ok (by rw[<- hq.1];exact hq.2.1)
   ·exact ih x hx
 exact all r x hx
def GU{kvs:List (List Key×V)}(ok:sO P w H h)(e:H a=some (.dT kvs)):kvs.length<=sizeLine/\(a == sysModules)=false /\
  ∃xs,KT H kvs xs/\h.DictOfH (tupleKind (j9 P w)) a xs:=Ei ok (.inl e)
end
abbrev yC (H:Hp)(a:ak)(y:V)(r:Option V):Prop:=
 (∃kvs k,Rd H a (.dK kvs)/\y=kV k/\r=tH kvs k)\/∃kvs k b,Rd H a (.dT kvs)/\y=.ref b/\H b=some (.tup (k.map kV))/\r=tH kvs k
abbrev JQ (H:Hp)(a:ak)(y v:V)(H':Hp):Prop:=
 (∃kvs k,H a=some (.dK kvs)/\y=kV k/\kvs.length<sizeLine/\H'=upd H a (.dK (putK kvs k v))) \/
 ∃kvs k b,H a=some (.dT kvs)/\y=.ref b/\H b=some (.tup (k.map kV))/\kvs.length<sizeLine/\H'=upd H a (.dT (putK kvs k v))
def yC.t{H:Hp}{a:ak}{k:List Key}(e:H a=some (.dT kvs))(eb:H b=some (.tup (k.map kV))):yC H a (.ref b) (tH kvs k):=.inr ⟨kvs,k,b,.inl e,rfl,eb,rfl⟩
def JQ.t{H:Hp}{a:ak}{kvs:List (List Key×V)}{k:List Key}{v:V}(e:H a=some (.dT kvs))(eb:H b=some (.tup (k.map kV)))(hl:kvs.length<sizeLine) :
  JQ H a (.ref b) v (upd H a (.dT (putK kvs k v))):=.inr ⟨kvs,k,b,e,rfl,eb,hl,rfl⟩
section
variable {X:Cx}{pins:bj}{σ:St}{H:Hp}{s:aC}{a:ak}{y v:V}{u r:af}{o:Option V}{A:aA}{E:af->aC->Prop}
def Inv.big(I:Inv X pins σ H s):sysModules<s.heap.objs.size:=by
 have h:mainGlobals<s.heap.objs.size:=(I.mod.glob.keeps I.bk).lt;exact Nat.lt_trans ⋯ h
def FT{Q:af->aC->Prop}(hu:A.units+1<cLine)(I:Inv X pins σ H s)(g:yC H a y (some v))(ry:RelV y u)(h:∀w' s',Inv X pins σ H s'->RelV v w'->Q w' s') :
  wpAny (model X.prog X.w) A (getItem (.ref a) u) Q E s:=by
 rcases g with⟨kvs,k,e,ey,l⟩|⟨kvs,k,b,e,ey,eb,l⟩
 ·subst ey;obtain⟨z,hd,vs,rel,dd⟩:=EZ I.hok e;obtain⟨w',hw,rw'⟩:=xx.some_of (v:=v) (o:=valueAt vs k) (by rw[l];exact rel.val k);exact wpAny_getItem_of (DP ry) dd.mapOf hw (h w' _ (I.tok _) rw')
 ·subst ey
  cases(show u=Value.ref b from ry)
  obtain⟨z,hd,xs,rel,dd⟩:=Ei I.hok e;obtain⟨w',hw,rw'⟩:=xx.some_of (v:=v) (o:=(atKey xs k).map (·.2)) (by rw[l];exact rel.val k);obtain⟨p,hp,hp2⟩:=br.mp hw;refine wpAny_getItem_heap (ie hu) (wL I.hok eb) dd hp ?_;rw[hp2];exact h w' _ (I.tok _) rw'
def Ll{Q:af->aC->Prop}(hu:A.units+1<cLine)(I:Inv X pins σ H s)(g:yC H a y o)(ry:RelV y u)(h:∀s',Inv X pins σ H s'->Q (.bool (!o.isSome)) s') :
  wpAny (model X.prog X.w) A (compareOp .NotIn u (.ref a)) Q E s:=by
 rcases g with⟨kvs,k,e,ey,l⟩|⟨kvs,k,b,e,ey,eb,l⟩
 ·subst ey;obtain⟨z,hd,vs,rel,dd⟩:=EZ I.hok e;refine wpAny_notIn_of (DP ry) hd dd.mapOf ?_;rw[<- (rel.val k).ud,<- l];exact h _ (I.tok _)
 ·subst ey
  cases(show u=Value.ref b from ry)
  obtain⟨z,hd,xs,rel,dd⟩:=Ei I.hok e;refine wpAny_notIn_heap (ie hu) (wL I.hok eb) hd dd ?_;have q:=(rel.val k).ud;rw[isSome_map]at q;rw[<- q,<- l];exact h _ (I.tok _)
def vn{h':aq}{t':Nat}{ob:HO}(I:Inv X pins σ H s)(mu:Q3 (H a))(hs:Heap.SameBut a s.heap h')(he:∃q,h'.get? a=some q)(new:kD X.prog X.w (upd H a ob) h' a ob) :
  Inv X pins σ (upd H a ob) { s with heap:=h',toks:=t' }:=
 I.write (x:=a) (e:=a) mu (.inl rfl) (λb q hb z=>(hs.2 b hb).trans z) he new
def NZ{P:aj}{w:ah}{H':Hp}{h':aq}{kvs:List (Key×V)}(z:kvs.length<=sizeLine)(hd:(a == sysModules)=false)(rel:KV kvs vs)(dd:h'.DictOf (j9 P w) a vs) :
  kD P w H' h' a (.dK kvs):=⟨z,hd,vs,rel,dd⟩
def F7{H':Hp}{Q:Unit->aC->Prop}(hu:A.units+1<cLine)(I:Inv X pins σ H s)(g:JQ H a y v H')(ry:RelV y u)(rv:RelV v r)(h:∀s',Inv X pins σ H' s'->Q Unit.unit s') :
  wpAny (model X.prog X.w) A (setItem (.ref a) u r) Q E s:=by
 rcases g with⟨kvs,k,e,ey,l,eH⟩|⟨kvs,k,b,e,ey,eb,l,eH⟩
 ·subst ey eH;obtain⟨z,hd,vs,rel,dd⟩:=QO I.hok e;have hz:vs.length<=sizeLine:=by rw[<- rel.length];exact z
  have hl:(putK kvs k v).length<=sizeLine:=by have:=uP kvs k v;lia
  refine wpAny_setItem_pairs (hsz:=hz) (DP ry) dd λh' dd' hs=>h _ ?_;have he:∃q,h'.get? a=some q:=let⟨q,_,_,hq,_⟩:=dd';⟨q,hq⟩
  exact vn I (by rw[e];exact True.intro) hs he (NZ hl hd (rel.put k rv) dd')
 ·subst ey eH
  cases(show u=Value.ref b from ry)
  obtain⟨z,hd,xs,rel,dd⟩:=GU I.hok e;have hz:xs.length<=sizeLine:=by rw[<- iD rel];exact z
  have hl:(putK kvs k v).length<=sizeLine:=by have:=uP kvs k v;lia
  refine wpAny_setItem_heap (hsz:=hz) (ie hu) (wL I.hok eb) dd λh' dd' hs=>h _ ?_;obtain⟨q,es,ep,hq,h2,h3,h4,_,h5⟩:=dd';refine vn I (by rw[e];exact True.intro) hs ⟨q,hq⟩ ⟨hl,hd,_,(rel.put k eb rv).keeps λc ys ec=>?_,q,es,ep,hq,h2,h3,h4,h5⟩;rw[jl (IG ec e (λz=>nomatch z))];exact ec
end
def AJ{X:Cx}{H:Hp}{s:aC}{a:ak}(I:Inv X pins σ H s)(g:yC H a y o):s.TypeIs (.ref a) "dict" := by
 rcases g with⟨kvs,k,e,_,_⟩|⟨kvs,k,b,e,_,_,_⟩
 ·obtain⟨_,_,vs,_,dd⟩:=EZ I.hok e;exact dd.typeIs
 ·obtain⟨_,_,xs,_,dd⟩:=Ei I.hok e;exact dd.typeIs
def JB{P:aj}{w:ah}{H:Hp}(h:aq)(hb:sysModules<h.objs.size):kD P w H (h.push { cls:=.type "dict",data:=.dict #[]}) h.objs.size (.dT []):=
 ⟨cF _,beq_eq_false_iff_ne.mpr (eL (bE hb)),[],.nil,_,#[],0,bu _ rfl,⟨rfl,rfl,rfl⟩,rfl,rfl,ig⟩
structure M1 (X:Cx)(o:aE)(m:Str)(apos:Pos)(e:aE)(cpos:Pos):Prop where
 base:attributeBase o m X.env (eval o X.env)=eval o X.env
 few:((backTo cpos (starEach [e] X.env)).all (λx=>!x.1) && (backToKw cpos (keywordEach [] X.env)).all (λx=>x.1.isSome)
  && decide (([e]:List aE).length+([]:List Keyword).length+(if ([]:List Keyword).isEmpty then 0 else 1)<30))=true
 line:(apos.endLine == cpos.line)=true
 trees:backTo cpos (starEach [e] X.env)=[(false,eval e X.env)]
structure M2 (X:Cx)(o:aE)(m:Str)(apos:Pos)(e f:aE)(cpos:Pos):Prop where
 base:attributeBase o m X.env (eval o X.env)=eval o X.env
 few:((backTo cpos (starEach [e,f] X.env)).all (λx=>!x.1) && (backToKw cpos (keywordEach [] X.env)).all (λx=>x.1.isSome)
  && decide (([e,f]:List aE).length+([]:List Keyword).length+(if ([]:List Keyword).isEmpty then 0 else 1)<30))=true
 line:(apos.endLine == cpos.line)=true
 trees:backTo cpos (starEach [e,f] X.env)=[(false,eval e X.env),(false,eval f X.env)]
section
variable {X:Cx}
def LL(hu:X.A.units+1<cLine):O6 X (λx y H Q=>∃a v,x=.ref a/\yC H a y (some v)/\Q v H):=by
 kst_p;obtain⟨a,z,rfl,g,q⟩:=h
 cases rx
 have hT:=AJ I g;unfold subscriptTail;refine aH ?_;rw[getitemInPython_of_ne hT.not_modules];refine aH (wpAny_specialOf hT PySem.F.slot_dict_getitem.lookup ?_);have fin:wpAny (model X.prog X.w) X.A (subscripted slice false (.ref a) u) (λr s₃=>wpAny (model X.prog X.w) X.A (letTemporaryGo value (.ref a) r >>= λ_=>pure r) (EP X pins σ Q) X.xe s₃) X.xe s:=by
  rw[hs];exact wpAny_operating (FT hu I g ry λw' s3 I3 rw'=>aH (wpAny_letTemporaryGo (aL ⟨z,H,I3,rw',q⟩)))
 first
  | exact aL (aH fin)
  | exact aH (aL (aH fin))
  | exact aH fin
def FH(hu:X.A.units+1<cLine):nq X (compareOp .NotIn) (λy x H Q=>∃a o,x=.ref a/\yC H a y o/\Q (.bl (!o.isSome)) H):=by
 intro pins s σ H y x v u Q I ry rx h;obtain⟨a,o,rfl,g,q⟩:=h
 cases rx
 exact Ll hu I g ry λs3 I3=>⟨.bl (!o.isSome),H,I3,rfl,q⟩
def set_dict(hu:X.A.units+1<cLine):F1 X (λo i v H Q=>∃a H',o=.ref a/\JQ H a i v H'/\Q H'):=by
 intro pins s σ H o i v ov iv u Q I ro ri rv h;obtain⟨a,H',rfl,g,q⟩:=h
 cases ro
 exact F7 hu I g ri rv λs4 I4=>⟨H',I4,q⟩
abbrev NJ (tk tv:TE):TE:=λσ H Q=>∀p,H p=none->tk σ (upd H p (.dT [])) λx H1=>tv σ H1 λy H2=>H2 p=some (.dT [])/\∃b ks,x=.ref b/\H2 b=some (.tup (ks.map kV))/\Q (.ref p) (upd H2 p (.dT [(ks,y)]))
def Kw{k v:aE}{tk tv:TE}(hu:X.A.units+1<cLine)(hk:PE X k tk)(hv:PE X v tv):PE X (.Dict [some k] [v] pos) (NJ tk tv):=by
 intro pins s σ H Q I q;have hn:=I.hok.fresh (aP s.heap.objs.size);have I1:=I.laid (a:=s.heap.objs.size) (o:=.dT []) (h':=s.heap.push { cls:=.type "dict",data:=.dict #[]}) (t':=s.toks) (λ_ _ q=>aO _ q) (aP _) (JB s.heap I.big);refine wpAny_Dict_any rfl rfl (by simp) (show 1<=15 by decide) ?_;refine pairTrees_cons_walk (j3 (hk pins _ σ _ _ I1 (q _ hn)) λkv s1 ⟨x,H1,I2,rx,q1⟩=>j3 (hv pins s1 σ H1 _ I2 q1) λvv s2 ⟨y,H2,I3,ry,e,b,ks,ex,eb,q2⟩=>pairTrees_nil_walk ?_);subst ex
 cases rx
 obtain⟨z,hd,xs,rel,dd⟩:=GU I3.hok e
 cases rel
 unfold storeAll;rw[iO];refine aH (aH (wpAny_dictSet_heap (hsz:=by simp) (show X.A.units<cLine by lia) (wL I3.hok eb) dd λh' dd' hs=>aL ?_));dsimp only;rw[iU];refine aL ⟨.ref s.heap.objs.size,_,?_,rfl,q2⟩;obtain⟨q',es,ep,hq,h2,h3,h4,_,h5⟩:=dd';refine vn I3 (by rw[e];exact True.intro) hs ⟨q',hq⟩ ⟨by show 1<=sizeLine;decide,hd,_,(KT.put (kvs:=[]) .nil ks eb ry).keeps λc ys ec=>?_,q',es,ep,hq,h2,h3,h4,h5⟩;rw[jl (IG ec e (λz=>nomatch z))];exact ec
end
section
variable {P:aj}{w:ah}{A:aA}{E:af->aC->Prop}{s:aC}{it d:ak}{i ep:Nat}{es:Array DictEntry}{o:Obj}{k0 v0:af}
def L8{Q:ba->aC->Prop}(hi:IsItemIter s.heap it d i es.size ep k0 v0)(ho:s.heap.get? d=some o)(hd:o.data=.dict es ep)(lt:i<es.size)
  (q:∀h',IsItemIterOut h' it d (i+1) es.size ep es[i].key es[i].val s.heap.objs.size->h'.get? s.heap.objs.size=some { cls:=.type "tuple",data:=.seq #[es[i].key,es[i].val]}->h'.objs.size=s.heap.objs.size+1 ->
   (∀b ob,b≠it->s.heap.get? b=some ob->h'.get? b=some ob)->Q (some (.ref s.heap.objs.size)) { s with heap:=h' }) :
  wpAny (model P w) A (pyNext (.ref it)) Q E s:=by
 obtain⟨hp,gn,dr,tk,os⟩:=s;have ty:Shared.TypeIs ⟨hp,gn,dr,tk,os⟩ (.ref it) "dict_itemiterator" := ⟨_,hi,rfl⟩;have own:Builtin.Dict_items.ownsTuple "dict_itemiterator" = true:=by decide
 have nn:¬((Value.ref d == Value.none)=true):=bq;have n0:¬((i:Int)<0):=()
 unfold pyNext;refine aH (wpAny_attempt (eE (name:=Str.ofString "__next__") ty bY (c5 bY ty fK ?_ (fF _))));refine aH (aL (aH (aH ?_)))
 first
  | refine aH (dh ty (aL (aH (ir hi rfl ?_))))
  | refine aH (dP ty (aL (aH (ir hi rfl ?_))))
 dsimp[own,cN];show wpAny (model P w) _ (if (Value.ref d == Value.none)=true then _ else _) _ _ ⟨hp,gn,dr,tk,os⟩;rw[aM nn];refine aH (aL (aH (iA ho hd ?_)));rw[aM (show ¬_ by simp)];refine aH (aL (aH (wpAny_dictEpoch ho hd ?_)));rw[aM (show ¬_ by simp)];refine aL ?_;dsimp[n0,cE,b9,fH lt];refine aH ?_
 first
  | refine aH (dh ty (aL (aH (eO ty ?_))))
  | refine aH (dP ty (aL (aH (eO ty ?_))))
 show wpAny (model P w) _ (setField (.ref it) 3 (rawInt ((i:Int)+1)) >>= _) _ _ _;refine aH (eS hi (show _ by simp) λh1 e1 b1=>?_);have b1:Heap.SameBut it hp h1:=b1;have e1:IsItemIter h1 it d (i+1) es.size ep k0 v0:=by
  have z:((i+1:Nat):Int)=(i:Int)+1:=()
  unfold IsItemIter;rw[z];simpa[rawInt]using e1
 have ty1:Shared.TypeIs ⟨h1,gn,dr,tk,os⟩ (.ref it) "dict_itemiterator" := ⟨_,e1,rfl⟩;refine aH (di (aH (eO ty1 (aH (eO ty1 ?_)))))
 skip
 delta Builtin.Dict_items.pairFromOwner;refine aH (wpAny_newTuple (?_));have il:it<hp.objs.size:=bf hi;have sz1:h1.objs.size=hp.objs.size:=b1.1;obtain⟨h2,hh2⟩:∃h2,h2=h1.push { cls:=.type "tuple",data:=.seq #[es[i].key,es[i].val]}:=⟨_,rfl⟩;have e2:IsItemIter h2 it d (i+1) es.size ep k0 v0:=by rw[hh2];exact aO _ e1
 have t2:h2.get? hp.objs.size=some { cls:=.type "tuple",data:=.seq #[es[i].key,es[i].val]}:=by rw[hh2,<- sz1];exact bu _ rfl
 have sz2:h2.objs.size=hp.objs.size+1:=by rw[hh2,eF,sz1]
 have kp2:∀b ob,b≠it->hp.get? b=some ob->h2.get? b=some ob:=λb ob nb eb=>by rw[hh2];exact aO _ (b1.extBut b ob nb eb)
 skip
 rw[<- hh2,sz1];refine aH ?_;delta Builtin.Dict_items.ownedTupleIsFree;refine aH (dU e2 rfl (x:=.none) rfl (aL ?_));dsimp[cN];refine aH (dU e2 rfl (x:=k0) rfl (aH (dU e2 rfl (x:=v0) rfl ?_)));refine aH (eS e2 (show _ by simp) λh3 e3 b3=>?_);have b3:Heap.SameBut it h2 h3:=b3;have e3:IsItemIter h3 it d (i+1) es.size ep es[i].key v0:=e3;refine aH (eS e3 (show _ by simp) λh4 e4 b4=>?_);have b4:Heap.SameBut it h3 h4:=b4;have e4:IsItemIter h4 it d (i+1) es.size ep es[i].key es[i].val:=e4;refine aH (eS e4 (show _ by simp) λh5 e5 b5=>?_);have b5:Heap.SameBut it h4 h5:=b5;have e5:IsItemIterOut h5 it d (i+1) es.size ep es[i].key es[i].val hp.objs.size:=e5;refine aH (eS e5 (show _ by simp) λh6 e6 b6=>?_);have b6:Heap.SameBut it h5 h6:=b6;have e6:IsItemIterOut h6 it d (i+1) es.size ep es[i].key es[i].val hp.objs.size:=e6;have kp6:∀b ob,b≠it->h2.get? b=some ob->h6.get? b=some ob:=λb ob nb eb=>b6.extBut b ob nb (b5.extBut b ob nb (b4.extBut b ob nb (b3.extBut b ob nb eb)));refine aH (wpAny_letGo (aL (aL ⟨_,rfl,aL (q h6 e6 (kp6 _ _ (ne_of_gt il) t2) ?_ λb ob nb eb=>kp6 b ob nb (kp2 b ob nb eb))⟩)))
 skip
 rw[b6.1,b5.1,b4.1,b3.1,sz2]
def Qv{Q:ba->aC->Prop}(hh:A.handled=none)(hi:IsItemIter s.heap it d i es.size ep k0 v0)(ho:s.heap.get? d=some o)(hd:o.data=.dict es ep)(ge:es.size<=i)
  (q:∀h',Heap.ExtBut it s.heap h'->Q none { s with heap:=h' }):wpAny (model P w) A (pyNext (.ref it)) Q E s:=by
 have ty:s.TypeIs (.ref it) "dict_itemiterator" := ⟨_,hi,rfl⟩;have own:Builtin.Dict_items.ownsTuple "dict_itemiterator" = true:=by decide
 have nn:¬((Value.ref d == Value.none)=true):=bq;have n0:¬((i:Int)<0):=()
 unfold pyNext;refine aH (wpAny_attempt (eE (name:=Str.ofString "__next__") ty bY (c5 bY ty fK ?_ (fF _))));refine aH (aL (aH (aH ?_)))
 first
  | refine aH (dh ty (aL (aH (ir hi rfl ?_))))
  | refine aH (dP ty (aL (aH (ir hi rfl ?_))))
 dsimp[own,cN];show wpAny (model P w) _ (if (Value.ref d == Value.none)=true then _ else _) _ _ s;rw[aM nn];refine aH (aL (aH (iA ho hd ?_)));rw[aM (show ¬_ by simp)];refine aH (aL (aH (wpAny_dictEpoch ho hd ?_)));rw[aM (show ¬_ by simp)];refine aL ?_;dsimp[n0,cE,b9,Array.getElem?_eq_none ge];refine aH ?_
 first
  | refine aH (dh ty (aL ?_))
  | refine aH (dP ty (aL ?_))
 show wpAny (model P w) _ (setField (.ref it) 2 .none >>= _) _ _ s;refine aH (wpAny_setField hi rfl (show _ by simp) ?_)
 skip
 refine aH ?_;dsimp[newExc,newTuple];refine aH (bM (aH (m:=firstArgMember _ _) (wpAny_of_eq (a:=Value.none) (by first|rfl|(dsimp[firstArgMember];rfl)) (bM ?_ (by size_fits)))) (by size_fits));dsimp[raiseNew];have hn:A.in1.handled=none:=hh;refine aH (wpAny_handled (?_));rw[hn];refine aH (aL (wpAny_throw (?_)));refine aH (wpAny_isInstance (b:=true) (T := "StopIteration") ⟨_,bu _ rfl,rfl⟩ isSubtype_stop (aL (q _ (((Heap.SameBut.update ..).extBut.push _).push _))))
end
def LA:entryFor table "dict_itemiterator.__iter__" = some Builtin.«dict_keyiterator.__iter__»:=entryFor_alias (by kernel_rfl) rfl (id' := "dict_keyiterator.__iter__") ∅ (by kernel_rfl)
abbrev Ux (d:ak)(o:Obj)(u:HO)(ps:List (ak×V)):It:=
 ⟨λi H=>∃a v,ps[i]?=some (a,v)/\H d=some (.frz o u),λi H x H'=>∃T,H T=none/\x=.ref T/\∀a v,ps[i]?=some (a,v)->H'=upd H T (.tup [.ref a,v]),λi H=>i=ps.length/\H d=some (.frz o u)⟩
def BB{P:aj}{w:ah}{K:au}(d it:ak){o:Obj}{es:Array DictEntry}{ps:List (ak×V)}(hd:o.data=.dict es ep)(hl:ps.length=es.size)
  (hp:∀i a v,ps[i]?=some (a,v)->∀h:i<es.size,es[i].key=.ref a/\RelV v es[i].val):Turn P w K (.Tuple elts x1 tpos) (Ux d o u ps) [it] it (λi h=>∃k0 v0,IsItemIter h it d i es.size ep k0 v0) where
 mem:=by simp
 obj:=λi h st b hb=>by
  obtain⟨k0,v0,st⟩:=st;have:b=it:=by simpa using hb
  subst this;exact⟨_,st,λv z=>by cases z⟩
 keep:=λi h h' ⟨k0,v0,st⟩ k=>⟨k0,v0,k it (by simp) _ st⟩
 item:=by
  w_up;subst hP hw hK;obtain⟨k0,v0,st⟩:=st;obtain⟨a,v,hx,hq⟩:=hg;have ho:s.heap.get? d=some o:=(show kD _ _ H s.heap d (.frz o u)from I.hok d _ hq).1;have lt:i<es.size:=by rw[<- hl];exact(aJ.mp hx).1
  obtain⟨ek,rv⟩:=hp i a v hx lt;refine L8 st ho hd lt λh' hout hT hsz hk=>⟨_,rfl,wpAny_letOwnedTupleGo_items hout λh2 he2 hs2=>?_⟩;have fT:H s.heap.objs.size=none:=I.hok.fresh (aP _);have hil:it<s.heap.objs.size:=bf st;have k2:∀b ob,b≠it->s.heap.get? b=some ob->h2.get? b=some ob:=λb ob h1 qb=>hs2.extBut b ob h1 (hk b ob h1 qb);have hT2:h2.get? s.heap.objs.size=some { cls:=.type "tuple",data:=.seq #[es[i].key,es[i].val]}:=hs2.extBut _ _ (ne_of_gt hil) hT;obtain⟨i0,i1,i2,i3,i4,i5⟩:=hf it (by simp);have nT:∀b ob,s.heap.get? b=some ob->b≠s.heap.objs.size:=λb ob qb=>bE (bf qb);have ne_tr:∀c y,H c=some y->c≠it:=λc y qc z=>by rw[z,i0]at qc;cases qc
  have I2:Inv X pins σ (upd H s.heap.objs.size (.tup [.ref a,v])) { s with heap:=h2 }:=by
   refine I.step (g':=s.gens) (d':=s.drawn) (ch:=[it]) (λb hb=>?_) (λb ob _ _ hch qb _=>?_) (λb ob _ _ hch qb _=>?_) (λb ob hch qb n=>?_) (λb ob hch qb=>?_) (λb ys qb=>?_) (λb ob u' qb=>?_) (λb ps' qb=>?_) (λm hm=>?_) (λb u' qb=>?_) I.bare
   ·have:b=it:=by simpa using hb
    subst this;exact⟨i3,i1,i4,i5⟩
   ·exact k2 b ob (λz=>hch (by simp[z])) qb
   ·exact⟨ob.slots,k2 b ob (λz=>hch (by simp[z])) qb⟩
   ·rw[jl (nT b ob qb)];exact n
   ·exact⟨ob,k2 b ob (λz=>hch (by simp[z])) qb⟩
   ·rw[jl (ju qb fT)];exact qb
   ·rw[jl (ju qb fT)];exact qb
   ·exact⟨#[],by rw[jl (ju qb fT),qb];simp⟩
   ·obtain⟨ob,es',ep',hob,r⟩:=hm;exact⟨ob,es',ep',k2 _ ob (eL i1) hob,r⟩
   ·by_cases z:b=s.heap.objs.size
    ·subst z;rw[jJ]at qb
     cases qb
     exact⟨by show 2<=sizeLine;decide,[es[i].key,es[i].val],.cons ek (.cons rv .nil),⟨_,hT2,rfl,rfl,0,rfl⟩⟩
    ·rw[jl z]at qb;refine(I.hok b u' qb).stay (λc y hc q'=>k2 c y ?_ q') (λc q'=>?_) λc ys q'=>?_
     ·rcases hc with z|z
      ·rw[z];exact ne_tr b u' qb
      ·exact ne_tr c _ z
     ·rw[jl (ju q' fT)];exact q'
     ·rw[jl (ju q' fT)];exact q'
  refine⟨.ref s.heap.objs.size,_,I2,rfl,⟨s.heap.objs.size,fT,rfl,λa' v' hy=>?_⟩,⟨_,_,he2⟩,λb hb=>?_⟩
  ·rw[hx]at hy
   cases hy
   rfl
  ·have:b=it:=by simpa using hb
   subst this;rw[jl (bE hil)];exact i0
 done:=by
  w_up;subst hP hw hK;obtain⟨k0,v0,st⟩:=st;obtain⟨hi,hq⟩:=hg;have ho:s.heap.get? d=some o:=(show kD _ _ H s.heap d (.frz o u)from I.hok d _ hq).1;refine Qv (I.ok.hd hc) st ho hd (by rw[<- hl];lia) λh' hx=>⟨rfl,?_⟩;obtain⟨i0,i1,i2,i3,i4,i5⟩:=hf it (by simp);exact I.turned (t':=s.toks) (λb ob hb qb=>hx b ob hb qb) i0 i1 i3 i4 i5
 self:=by
  intro A i s Q E st q;obtain⟨k0,v0,st⟩:=st;have ty:s.TypeIs (.ref it) "dict_itemiterator" := ⟨_,st,rfl⟩;exact wpAny_pyIter_slot ty fP (c5 fP ty LA (aL ⟨_,rfl, "dict_itemiterator",_,ty,bY.lookup,q⟩) (PySem.F.args_dict_itemiterator_iter_1 _))
section
variable {X:Cx}
def Ad{A:aA}{E:af->aC->Prop}{s:aC}{Q:af->aC->Prop}(ty:s.TypeIs (.ref d) "dict")(hd:(d == sysModules)=false)
  (q:Q (.ref s.heap.objs.size) { s with heap:=s.heap.push { cls:=.type "dict_items",data:=.fields #[.ref d]}}):wpAny (model X.prog X.w) A (call (.builtin "dict.items") [.ref d]) Q E s:=by
 refine c5 PySem.F.slot_dict_items ty PySem.F.entry_dict_items ?_ (PySem.F.args_dict_items_1 _);delta Builtin.«dict.items»;refine aH ?_;delta Builtin.Dict.noArgs;refine aH (wpAny_notOrdered_dict ty ?_)
 skip
 refine aL ?_
 skip
 delta Builtin.Dict.showsAll;have nd:¬((d == sysModules)=true):=by rw[hd];exact bq
 rw[aM nd];exact aH (aL (aH (bM (aL ⟨_,rfl,q⟩))))
def z8{A:aA}{E:af->aC->Prop}{s:aC}{v:ak}{o:Obj}{es:Array DictEntry}{Q:af->aC->Prop}(hv:s.heap.IsItemsView v d)(ho:s.heap.get? d=some o)(hd:o.data=.dict es ep)
  (q:Q (.ref s.heap.objs.size) { s with heap:=s.heap.push { cls:=.type "dict_itemiterator",data:=.fields #[.none,.bool false,.ref d,.int 0 0,.int es.size 0,.int ep 0,.none,.none]}}) :
  wpAny (model X.prog X.w) A (pyIter (.ref v)) Q E s:=by
 obtain⟨ov,hov,hcv,hdv⟩:=id hv;have own:Builtin.Dict_items.ownsTuple "dict_itemiterator" = true:=by decide
 refine wpAny_pyIter_slot hv.typeIs gS (c5 gS hv.typeIs PySem.F.entry_dict_items_iter ?_ (PySem.F.args_dict_items_iter_1 _));delta Builtin.«dict_items.__iter__»;refine aH (aL (aH ?_));delta Builtin.Dict_items.dictOf;refine aH (dU hov hdv (x:=.ref d) rfl (aL (aH ?_)));delta Builtin.Dict_items.newIterator;refine aH (iA ho hd (aH (wpAny_dictEpoch ho hd ?_)));dsimp[own,cN];refine bM (aL ⟨_,rfl, "dict_itemiterator",_,⟨_,bu _ rfl,rfl⟩,bY.lookup,?_⟩) (by dsimp[sizeOk,Builtin.Dict_items.ownedTupleFields,aQ,aU,bI,eV,cV];lia);simpa[rawInt,Builtin.Dict_items.ownedTupleFields]using q
end
section
variable {X:Cx}
theorem kt_at{H:Hp}:∀{kvs:List (List Key×V)}{xs:List (List Key×ak×af)},KT H kvs xs->kvs.length=xs.length/\∀(i:Nat) (p:List Key×V),kvs[i]?=some p->∃y:List Key×ak×af,xs[i]?=some y/\p.1=y.1/\H y.2.1=some (.tup (p.1.map kV))/\RelV p.2 y.2.2
 | [],[],_=>⟨rfl,λi p h=>by simp at h⟩
 | [],_::_,r=>nomatch r
 | _::_,[],r=>nomatch r
 | a::kvs,b::xs,.cons z r=>by
  obtain⟨l,q⟩:=kt_at r;refine⟨by simp[l],λi p h=>?_⟩
  cases i with
  | zero=>
   have:a=p:=by simpa using h
   subst this;exact⟨b,rfl,z⟩
  | succ i=>exact q i p (by simpa using h)
abbrev OA (to:TE):TI:=λσ H R=>to σ H λx H1=>∃d kvs,x=.ref d/\H1 d=some (.dT kvs)/\∀(o:Obj) (ps:List (ak×V)),ps.length=kvs.length->(∀(i:Nat) a v,ps[i]?=some (a,v)->∃ks:List Key,kvs[i]?=some (ks,v)/\H1 a=some (.tup (ks.map kV)))->R (Ux d o (.dT kvs) ps) (upd H1 d (.frz o (.dT kvs)))
theorem Ke{apos cpos:Pos}{e:aE}{to:TE}(he:PE X e to)(hbase:attributeBase e "items" X.env (eval e X.env)=eval e X.env:=by rfl)(hline:(apos.endLine == cpos.line)=true:=by rfl) :
  PI X (.Tuple elts x1 tpos) (.Call (.Attribute e "items" apos) [] [] cpos) (OA to):=by
 intro pins s σ H R I h;refine wpAny_Call_method0_late hbase hline (j3 (he pins s σ H _ I h) λv s1 ⟨x,H1,I1,r1,d,kvs,ex,ed,q1⟩=>?_);subst ex
 cases r1
 obtain⟨z,hd,xs,rel,dd⟩:=GU I1.hok ed;have ty:=dd.typeIs (s:=s1);obtain⟨ob,es,ep,g1,g2,g3,g4,g5,g6⟩:=id dd;obtain⟨kl,kt⟩:=kt_at rel;refine⟨"dict", "dict.items",PySem.F.plainAttrs_dict,PySem.F.slot_dict_items,PySem.F.type_dict_items,ty,λa ea=>?_,dD rfl (PySem.evalArgs_none (Ad ty hd ?_))⟩
 ·cases ea
  exact⟨ob,g1,g2.2.1⟩
 have g1':(s1.heap.push { cls:=.type "dict_items",data:=.fields #[.ref d]}).get? d=some ob:=aO _ g1;refine z8 (o:=ob) (es:=es) (ep:=ep) ⟨_,bu _ rfl,rfl,rfl⟩ g1' g3 ?_;have I2:Inv X pins σ H1 { s1 with heap:=(s1.heap.push { cls:=.type "dict_items",data:=.fields #[.ref d]}).push { cls:=.type "dict_itemiterator",data:=.fields #[.none,.bool false,.ref d,.int 0 0,.int es.size 0,.int ep 0,.none,.none]}}:=
  I1.kept (t':=s1.toks) λb o eb=>aO _ (aO _ eb)
 have hnd:∀b ys,H1 b=some (.tup ys)->upd H1 d (.frz ob (.dT kvs)) b=some (.tup ys):=λb ys eb=>by
  rw[jl (IG eb ed (λz=>nomatch z))];exact eb
 have I3:Inv X pins σ (upd H1 d (.frz ob (.dT kvs))) _:=vn (t':=s1.toks) (ob:=.frz ob (.dT kvs)) I2 (by rw[ed];exact True.intro) ⟨rfl,λ_ _=>rfl⟩ ⟨ob,aO _ g1'⟩ ⟨aO _ g1',z,hd,xs,rel.keeps hnd,ob,es,ep,aO _ g1',g2,g3,g4,g6⟩;have hes:es.size=xs.length:=by have:=dM List.length g4;simpa using this
 obtain⟨ps,hps⟩:∃ps:List (ak×V),ps=(List.range kvs.length).map λi=>((xs.getD i ([],0,.none)).2.1,(kvs.getD i ([],.non)).2):=⟨_,rfl⟩;have pl:ps.length=kvs.length:=by rw[hps];simp
 have pat:∀(i:Nat) a v,ps[i]?=some (a,v)->∃(ks:List Key) (y:List Key×ak×af),kvs[i]?=some (ks,v)/\xs[i]?=some y/\y.2.1=a/\H1 a=some (.tup (ks.map kV))/\RelV v y.2.2:=λi a v e=>by
  have hi:i<kvs.length:=by rw[<- pl];exact(aJ.mp e).1
  obtain⟨y,h1,h2,h3,h4⟩:=kt i kvs[i] (aG hi);rw[hps,aT,bR hi]at e;have e':((xs.getD i ([],0,.none)).2.1,(kvs.getD i ([],.non)).2)=(a,v):=aR e;rw[aI,aI,h1,aG hi]at e';have ea:y.2.1=a:=dM Prod.fst e';have ev:kvs[i].2=v:=dM Prod.snd e';exact⟨kvs[i].1,y,by rw[aG hi,<- ev],h1,ea,by rw[<- ea];exact h3,by rw[<- ev];exact h4⟩
 refine⟨(s1.heap.push { cls:=.type "dict_items",data:=.fields #[.ref d]}).objs.size,[(s1.heap.push { cls:=.type "dict_items",data:=.fields #[.ref d]}).objs.size],_,Ux d ob (.dT kvs) ps,_,rfl,I3,BB d _ g3 (by rw[pl,kl,hes]) (λi a v e hlt=>?_),⟨.none,.none,bu _ rfl⟩,λb hb=>?_,q1 ob ps pl λi a v e=>?_⟩
 ·obtain⟨ks,y,h1,h2,h3,h4,h5⟩:=pat i a v e;have:es.toList[i]?=some (entryOfKey (tupleKind (j9 X.prog X.w)) y):=by rw[g4,aT,h2];rfl
  have e2:es[i]=entryOfKey (tupleKind (j9 X.prog X.w)) y:=by
   rw[eY,fH hlt]at this;exact aR this
  rw[e2,<- h3];exact⟨rfl,h5⟩
 ·have eb:b=(s1.heap.push { cls:=.type "dict_items",data:=.fields #[.ref d]}).objs.size:=by simpa using hb
  have le:s1.heap.objs.size<=b:=by rw[eb,eF];exact Nat.le_succ _
  refine I1.Fe le ?_;have nd:b≠d:=λw=>absurd (bf g1) (by rw[<- w];exact Nat.not_lt.mpr le);rw[jl nd];exact I1.hok.fresh le
 ·obtain⟨ks,y,h1,_,_,h4,_⟩:=pat i a v e;exact⟨ks,h1,h4⟩
end
abbrev C0 (e:ak)(h:aq):Prop:=∃o vs,h.get? e=some o/\o.data=.fields vs/\vs[2]?=some .none/\o.dict=none
structure Fly (l:List Env)(g:aq)(pn:bj)(H:Hp)(e:ak)(cls:af)(h:aq):Prop where
 ex:∃(B:aq) (a0:af),Heap.FlyingW B l e cls a0 h/\(∀a u,H a=some u->∃o,B.get? a=some o)/\(∀b o,g.get? b=some o->b∉frs l->∃o',B.get? b=some o')/\(∀p∈pn,∃o',B.get? p.1=some o')/\C0 e h
structure Made (X:Cx)(H:Hp)(e:ak)(cls:af)(g:aq)(h:aq):Prop where
 ex:∃(g':aq) (vs:ap),Heap.MadeExcOf g' h e cls vs/\g'.FunFrames X.base X.stack/\(∀a u,H a=some u->∃o,g'.get? a=some o)/\(∀b o,g.get? b=some o->∃o',g'.get? b=some o')/\(∀p∈X.pn,∃o',g'.get? p.1=some o')
abbrev Om (X:Cx)(H:Hp)(e:ak)(cls:af)(s':aC):Prop:=Made X H e cls X.s₀.heap s'.heap\/Fly X.stack X.s₀.heap X.pn H e cls s'.heap
section
abbrev EX (X:Cx):XK:=λcls _ H'=>X.ex=[]/\∀pins σ' s' e,Inv X pins σ' H' s'->Om X H' e cls s'->X.xe (.ref e) s'
end
inductive FParts (X:Cx):List aE->List (Str ⊕ TE)->Prop
 | nil:FParts X [] []
 | txt {x:Str} {j pos} {es:List aE} {ps:List (Str ⊕ TE)} (h:FParts X es ps):FParts X (.Constant (.str x) j pos::es) (.inl x::ps)
 | val {e:aE} {pos:Pos} {t:TE} {es:List aE} {ps:List (Str ⊕ TE)} (he:PE X e t) (h:FParts X es ps):FParts X (.FormattedValue e (-1) none pos::es) (.inr t::ps)
abbrev xu:HO:=.ext λ_=>True
structure XO (C:ak)(o:Obj):Prop where
 cls:o.cls=.ref C
 dict:o.dict=none
 ctx:∃vs,o.data=.fields vs/\vs[2]?=some .none
structure Fr0 (X:Cx)(e:ak):Prop where
 no:∀o,X.s₀.heap.get? e≠some o
 tup:∀xs,X.H₀ e≠some (.tup xs)
 frz:∀o u,X.H₀ e≠some (.frz o u)
 tbl:∀ps,X.H₀ e≠some (.tbl ps)
abbrev mroIn (K:au)(C:ak):Option (ap):=match K.lookup C with
 | some ⟨.type "type",_,.cls cd,sl⟩=>(match cd.mro,sl.toList with
  | .ref C'::bm,[_,_,_,_,some (.builtin _),_]=>if C'=C/\cd.hasDel=false then some bm else none
  | _,_=>none)
 | _=>none
structure ClsAt (h:aq)(C:ak)(bm:ap):Prop where
 ex:∃nm q N bs hdct sn sub ab col dd k0 k1 k2 k3 k5 newId,h.get? C=some (excClassObj nm q C N bs bm hdct sn sub ab col dd k0 k1 k2 k3 k5 newId)
open PySem.W in
structure XCls (K:au)(C:ak):Prop where
 ga:findIn K (.ref C) "__getattribute__" = some (some (.builtin "BaseException.__getattribute__"))
 gt:findIn K (.ref C) "__getattr__" = some none
 fc:findObj K C none "__class__" = some (.bind (.builtin "getset_descriptor.__get__") (.builtin "object.__class__"))
 ob:PySem.W.mroIn K C (.type "object")=some true
 bs:subIn K (.ref C) (.type "BaseException")=some true
abbrev O8 (A:aA):aA:={ A with handled:=none }
abbrev Rx (k:Nat)(A:aA):Prop:=Room k (O8 A)
structure Hnd (A:aA)(H:Hp)(e:ak)(oe:Obj)(C:ak):Prop where
 hh:A.handled=some (.ref e)
 h0:H e=some (.frz oe xu)
 xo:XO C oe
structure FnOkH (P:aj)(w:ah)(K:au)(mg:Str->ba)(base:aq)(k:Nat)(f:ak)(fd:FuncData)(ps:am)(sp:Sp):Prop where
 len:∀vs H Q E,sp vs H Q E->vs.length=ps.length
 run:∀(A:aA) (outer:List Env) (s:aC) (H:Hp) (args:Args) (us:ap) (vs:List V) (Q:VK) (e:ak) (oe:Obj) (C:ak),Rx k A->Hnd A H e oe C->Env0 P w K mg base A outer s H->BindsTo s fd args (ps.zip us)->Vals vs us->sp vs H Q E0 ->
  codeAny (model P w) A (.call (.ref f) args) (CR qk outer P w H s Q E0) s
end L2
namespace L2
open PySem PySem.Spec PyProof.Rows PySem.SeqAt
def vE{prog:aj}{w:ah}{A:aA}{E:af->aC->Prop}{β:Type}{f:Nat->β->Sem (ForInStep β)}(I:Nat->β->aC->Prop)(Q:β->aC->Prop)
  (turn:∀i c s,i<b->I i c s->wpAny (model prog w) A (f i c) (λr s'=>match r with | .done c'=>Q c' s' | .yield c'=>I (i+1) c' s') E s)
  (fin:∀c s,I b c s->Q c s) {c:β} {s:aC} (h:I 0 c s):wpAny (model prog w) A (forIn [0:b] c f) Q E s:=by
 rw[Std.Legacy.Range.forIn_eq_forIn_range'];dsimp[Std.Legacy.Range.size,Nat.sub_zero,Nat.add_sub_cancel,Nat.div_one];refine wpAny_forIn_list f (λl c s=>∃i,i<=b/\l=List.range' i (b-i) 1/\I i c s) Q ?_ ?_ _ _ ⟨0,cF _,rfl,h⟩
 ·rintro x rest c s ⟨i,hib,hl,hI⟩;have hlt:i<b:=by
   rcases iM i b with h'|h'
   ·exact h'
   ·rw[show b-i=0 by lia]at hl;simp at hl
  obtain⟨n,hn⟩:∃n,b-i=n+1:=⟨b-i-1,()⟩;rw[hn,dH]at hl;obtain⟨rfl,rfl⟩:=List.cons.inj hl;refine eN (turn x c s hlt hI) (λr s' h'=>?_) λ_ _ q=>q
  cases r with
  | done c'=>exact h'
  | yield c'=>exact⟨x+1,hlt,by congr 1;lia,h'⟩
 ·rintro c s ⟨i,hib,hl,hI⟩;have:b-i=0:=by
   rcases Nat.eq_zero_or_pos (b-i)with z|z
   ·exact z
   ·obtain⟨n,hn⟩:∃n,b-i=n+1:=⟨b-i-1,()⟩;rw[hn,dH]at hl;cases hl
  have:i=b:=()
  subst this;exact fin c s hI
def xC(l:ak)(items:Array af)(n:Nat)(dd:Option ak)(sl:Array (ba))(x:af)(e:af->Bool)(j:Nat)(hj:j<items.size)(hit:e items[j]=true)(hno:∀m (hm:m<items.size),m<j->e items[m]=false) :
  Meets (Builtin.«tuple.index» ⟨[.ref l,x],[]⟩)
   (λA R s=>s.heap.get? l=some { cls:=.type "tuple",dict:=dd,data:=.seq items n,slots:=sl }/\(∀y,y∈items->EqAt A.in1 s y x (e y))/\R (.ok (.ret (.int j s.toks))) { s with toks:=s.toks+1 }):=
 .of_wp λprog w A R s h=>by
  obtain⟨hp,g,d,tk,os⟩:=s;obtain⟨hl,he,h⟩:=h
  wp_walk using wpAny_loadPart' hl,vE (λi b s'=>b.1=none/\s'=⟨hp,g,d,tk,os⟩/\i<=j) _
  case turn=>
   rintro i b s' hi ⟨hb,rfl,hij⟩;have hi':i<items.size:=()
   rw[fH hi'];refine aH (he _ (Array.getElem_mem hi') prog w _ _ ?_)
   rcases iM i j with q|q
   ·rw[hno i hi' q]
    wp_walk
    exact⟨rfl,rfl,q⟩
   ·have:i=j:=()
    subst this;rw[hit]
    wp_walk
    exact⟨_,rfl,h⟩
  case fin=>
   rintro⟨b1,b2⟩ s' ⟨hb,rfl,hij⟩
   lia
  case h=>exact⟨rfl,rfl,cF _⟩
abbrev Ow (K:au)(tup:Bool):V->List V->Hp->VK->Prop:=λx vs H Q=>∃(p:ak) (y:V) (xs:List V) (k:Nat) (z:V),x=.ref p/\vs=[y]/\(if tup=true then mz K H p xs else mw K H p xs)/\qf y=true/\xs.all qf=true/\xs[k]?=some z/\Bo z y=true/\(∀(m:Nat) (z':V),m<k->xs[m]?=some z'->Bo z' y=false)/\Q (.int k) H
section
variable {X:Cx}
def Hl{xs:List V}{its:ap}{k:Nat}(r:Vals xs its)(f:xs.all qf=true)(hk:xs[k]?=some z)(hz:Bo z y=true)(hno:∀m z',m<k->xs[m]?=some z'->Bo z' y=false) :
  ∃hj:k<its.toArray.size,QB y its.toArray[k]=true/\∀m (hm:m<its.toArray.size),m<k->QB y its.toArray[m]=false:=by
 have fl:∀m z',xs[m]?=some z'->qf z'=true:=λm z' h=>eG.mp f z' (aY h);obtain⟨u,hu,ru⟩:=r.get hk;obtain⟨hj,e⟩:=aJ.mp hu;refine⟨by simpa using hj,?_,λm hm hmk=>?_⟩
 ·rw[List.getElem_toArray,e,BR ru (fl k z hk)];exact hz
 ·have hm':m<xs.length:=by have:=(aJ.mp hk).1;lia
  obtain⟨u',hu',ru'⟩:=r.get (aG hm');obtain⟨_,e'⟩:=aJ.mp hu';rw[List.getElem_toArray,e',BR ru' (fl m _ (aG hm'))];exact hno m _ hmk (aG hm')
def Ln:KJ X "tuple.index" (Ow X.K true):=by
 intro pins s σ H x vs v us Q I rx rv ⟨p,y,xs,k,z,hx,hvs,hq,fy,fs,hk,hz,hno,q⟩;subst hx hvs
 cases rx
 obtain⟨u,rfl,ru⟩:=rv.one;obtain⟨its,r,pl,hsz⟩:=I.tuple hq;obtain⟨hj,h1,h2⟩:=Hl r fs hk hz hno;obtain⟨⟨cls,dd,data,sl⟩,ho,hc,n,hd⟩:=id pl;simp only at hc hd;subst hc hd;exact fV F.slot_tuple_index ⟨_,ho,rfl⟩ F.entry_tuple_index (F.args_tuple_index_2 _ _) (xC p its.toArray n dd sl u (QB y) k hj h1 h2) ⟨ho,λw hw=>vL ru fy r fs w (by simpa using hw),.int k,H,I.tok _,⟨_,rfl⟩,q⟩
def LD:KJ X "list.index" (Ow X.K false):=by
 intro pins s σ H x vs v us Q I rx rv ⟨p,y,xs,k,z,hx,hvs,hq,fy,fs,hk,hz,hno,q⟩;subst hx hvs
 cases rx
 obtain⟨u,rfl,ru⟩:=rv.one;obtain⟨its,r,pl,hsz⟩:=I.list hq;obtain⟨hj,h1,h2⟩:=Hl r fs hk hz hno;obtain⟨⟨cls,dd,data,sl⟩,ho,hc,n,hd⟩:=id pl.isList;simp only at hc hd;subst hc hd;have:=qy;have hz':k<xs.length:=(aJ.mp hk).1;exact fV F.slot_list_index ⟨_,ho,rfl⟩ F.entry_list_index (F.args_list_index_2 _ _) (SeqAt.list_indexAt p its.toArray n dd sl u (QB y) k hj () h1 h2) ⟨ho,λw hw=>vL ru fy r fs w (by simpa using hw),.int k,H,I.tok _,⟨_,rfl⟩,q⟩
abbrev UX (K:au)(to:TE)(t:TA):TE:=λσ H Q=>to σ H λx H1=>∃(b:Bool) (p:ak) (xs:List V),x=.ref p/\(if b=true then mz K H1 p xs else mw K H1 p xs)/\t σ H1 λvs H2=>Ow K b x vs H2 Q
def OM{e:aE}{to:TE}{t:TA}{apos cpos:Pos}(ho:PE X o to)(ha:PA X (e::es) t)
  (hbase:attributeBase o "index" X.env (eval o X.env)=eval o X.env:=by rfl)
  (hfew:((backTo cpos (starEach (e::es) X.env)).all (λx=>!x.1) && (backToKw cpos (keywordEach [] X.env)).all (λx=>x.1.isSome)
   && decide ((e::es).length+([]:List Keyword).length+(if ([]:List Keyword).isEmpty then 0 else 1)<30))=true:=by rfl)
  (hline:(apos.endLine == cpos.line)=true:=by rfl) (hs:starEach (e::es) X.env=(false,eval e X.env)::starEach es X.env:=by rfl) (hplain:(backTo cpos (starEach es X.env)).any (·.1)=false:=by rfl) :
  PE X (.Call (.Attribute o "index" apos) (e::es) [] cpos) (UX X.K to t):=by
 x_go;refine wpAny_Call_method_late hbase hfew hline rfl (j3 (ho pins s σ H _ I h) λv s1 ⟨x,H1,I1,r1,b,p,xs,hx,hq,q1⟩=>?_);subst hx
 cases r1
 cases b with
 | true=>
  obtain⟨ob,g1,g2,g3⟩:=I1.Pf hq;refine⟨"tuple", "tuple.index",PySem.F.plainAttrs_tuple,PySem.F.slot_tuple_index,PySem.F.type_tuple_index,⟨ob,g1,g2⟩,λa e=>by cases e;exact⟨ob,g1,g3⟩,?_⟩;have hA:=ha cpos pins s1 σ H1 _ I1 q1;rw[hs]at hA ⊢;refine dD (by show(false || (backTo cpos (starEach es X.env)).any (·.1))=false;rw[hplain]<;>rfl) (gO ?_);exact j3 hA λus s2 ⟨vs,H2,I2,r2,q2⟩=>Ln pins s2 σ H2 (.ref p) vs _ us Q I2 rfl r2 q2
 | false=>
  obtain⟨its,r,⟨ob,n,g1,g2,g3,g4⟩,hz⟩:=I1.list hq;refine⟨"list", "list.index",f9,PySem.F.slot_list_index,PySem.F.type_list_index,⟨ob,g1,g2⟩,λa e=>by cases e;exact⟨ob,g1,g3⟩,?_⟩;have hA:=ha cpos pins s1 σ H1 _ I1 q1;rw[hs]at hA ⊢;refine dD (by show(false || (backTo cpos (starEach es X.env)).any (·.1))=false;rw[hplain]<;>rfl) (gO ?_);exact j3 hA λus s2 ⟨vs,H2,I2,r2,q2⟩=>LD pins s2 σ H2 (.ref p) vs _ us Q I2 rfl r2 q2
end
end L2
namespace L2
open PySem PySem.Spec PyProof.Rows
def Gf{X:Cx}{i:Nat}{spos:Pos}{iter:aE}{N:am}{wi:TI}{g:TG}{tc:TT}{te:TE}
  (hN:X.N.Nodup) (hi':X.N[i]?=some y) (hx:Loc X.env.scope y) (hc:X.calm=true) (S:CpScope X scope N cap) (hi:PI X tg iter wi)
  (hg:∀C s₀ H₀ ex,PG (jW X scope N C s₀ H₀ ex) tg g) (ht:∀C s₀ H₀ ex,KI (jW X scope N C s₀ H₀ ex) ifs tc) (he:∀C s₀ H₀ ex,PE (jW X scope N C s₀ H₀ ex) elt te)
  (hsw:swapsWith (.ListComp elt [⟨tg,iter,ifs,0⟩] scope pos) (some (.Name y py)) spos.line X.env=pure true)
  (hf:X.fn y=true\/X.env.scope.names.lookup y=some .local) (hs:∀x,foldedSetIterable iter X.env x=pure x:=by intro _;rfl) :
  PS X (.Assign [.Name y py] (.ListComp elt [⟨tg,iter,ifs,0⟩] scope pos) spos) (Le (Q8 cap wi g tc te) (Hj i)):=by
 kcj_m;rw[exec_Assign_Name_used _ _ _ _ hsw];refine aH (d_ (aH ?_))
 skip
 refine aH (eN (Ec (ok:=λY=>Y.calm=true) (Q':=λ_ s'=>SP X pins D .next s') S (λ_ _ _ _ _=>hc) (PI.g hi) hg ht he hs pins s σ H _ I h ?_) (λ_ s' hq=>aL (aL hq)) λ_ _ e=>e);intro s6 C Dd H5 m hn fk inv q v;have Ia:=inv s6.heap (Heap.SameBut.refl _ _);obtain⟨oC,hoC⟩:∃o,s6.heap.get? C=some o/\∀v,o.data≠.cell v:=by
  obtain⟨o,es,ep,e,d,_⟩:=hn;exact⟨o,e,λv z=>by rw[d]at z;cases z⟩
 have Ip:=Ia.pinned (fp:=[C]) (λb hb=>by rw[bB]at hb;rw[hb];exact fk) (λb hb=>by rw[bB]at hb;rw[hb];exact⟨oC,hoC⟩)
 skip
 refine j3 (Ek hN hi' hx hf _ s6 σ H5 (.ref Dd) (.ref Dd) _ Ip rfl q) λ_ s7 h9=>?_;obtain⟨σ7,H7,I7,q7⟩:=h9;have hp:=I7.pin (C,oC) (aX _ (aX _ (kh (bB.mpr rfl) hoC.1)));refine⟨m,hn.at' λo e=>by rw[hoC.1]at e;cases e;exact hp.1,λh' sb=>?_⟩;have nC:∀c v,H7 c=some v->c≠C:=λc v e z=>by rw[z,hp.2.1]at e;cases e
 refine⟨σ7,H7,?_,q7⟩;refine I7.nY.Km (ch:=[C]) rfl ⟨λb o e n hb hx=>?_,λb o e n hb hx=>?_,λb o e n hx=>n,λb o e hx=>?_,λ_ _ e=>e,λ_ _ _ e=>e,λ_ _ e=>⟨#[],by rw[Array.append_empty];exact e⟩⟩ ?_ I7.bare ?_
 ·exact sb.extBut b o (by simpa using hx) e
 ·exact⟨o.slots,sb.extBut b o (by simpa using hx) e⟩
 ·exact⟨o,sb.extBut b o (by simpa using hx) e⟩
 ·intro b o e;refine(I7.hok b o e).stay (λc v hc q=>sb.extBut c v ?_ q) (λ_ q=>q) λ_ _ q=>q
  rcases hc with z|z
  ·rw[z];exact nC b o e
  ·exact nC c _ z
 ·intro b hb;rw[bB]at hb;rw[hb];exact⟨fk.2.2.2.1,fk.2.1,fk.2.2.2.2.1,fk.2.2.2.2.2⟩
end L2
namespace Sx
open PySem PyProof.Rows
structure Ord where
 lt:Nat->Nat->Bool
 Ma:∀i,lt i i=false
 tr:∀i j k,lt i j=true->lt j k=true->lt i k=true
 neg:∀i j k,lt i k=true->lt i j=true\/lt j k=true
abbrev P (o:Ord)(i j:Nat):Prop:=o.lt i j=true\/(o.lt j i=false/\i<j)
def Ord.Ub(o:Ord)(h:o.lt i j=true):o.lt j i=false:=by
 cases e:o.lt j i with
 | false=>rfl
 | true=>have:=o.tr _ _ _ h e;rw[o.Ma]at this;cases this
def P.Ma(h:P o i i):False:=by
 rcases h with h|⟨_,h⟩
 ·rw[o.Ma]at h;cases h
 ·lia
def P.trans{k:Nat}(a:P o i j)(b:P o j k):P o i k:=by
 rcases a with a|⟨a,a'⟩
 ·rcases b with b|⟨b,b'⟩
  ·exact .inl (o.tr _ _ _ a b)
  ·rcases o.neg i k j a with z|z
   ·exact .inl z
   ·rw[b]at z;cases z
 ·rcases b with b|⟨b,b'⟩
  ·rcases o.neg j i k b with z|z
   ·rw[a]at z;cases z
   ·exact .inl z
  ·refine .inr ⟨?_,()⟩
   cases e:o.lt k i with
   | false=>rfl
   | true=>
    rcases o.neg k j i e with z|z
    ·rw[b]at z;cases z
    ·rw[a]at z;cases z
def P.of_lt{o:Ord}(h:o.lt i j=true):P o i j:=.inl h
def P.uM{o:Ord}(h:o.lt j i=false)(hij:i<j):P o i j:=.inr ⟨h,hij⟩
def P.lt{o:Ord}(h:P o i j)(hij:j<i):o.lt i j=true:=by
 rcases h with h|⟨_,h⟩
 ·exact h
 ·lia
def P.ge{o:Ord}(h:P o i j):o.lt j i=false:=by
 rcases h with h|⟨h,_⟩
 ·exact o.Ub h
 ·exact h
abbrev So (o:Ord)(g:Nat->Nat)(a b:Nat):Prop:=∀i j,a<=i->i<j->j<b->P o (g i) (g j)
abbrev Cl (g:Nat->Nat)(a b:Nat):Prop:=∀i,a<=i->i<b->a<=g i/\g i<b
abbrev rev (g:Nat->Nat)(i j:Nat):Nat->Nat:=λk=>if i<=k/\k<j then g (i+j-1-k)else g k
abbrev mv (g:Nat->Nat)(src dst:Nat):Nat->Nat:=λk=>if k=dst then g src else if dst<k/\k<=src then g (k-1)else g k
def v8{g:Nat->Nat}{k:Nat}(h:i<=k)(h2:k<j):rev g i j k=g (i+j-1-k):=aN ⟨h,h2⟩
def nK{g:Nat->Nat}{k:Nat}(h:k<i\/j<=k):rev g i j k=g k:=aM ()
def HW{g:Nat->Nat}:mv g s d d=g s:=aN rfl
def Az{g:Nat->Nat}{k:Nat}(h:d<k)(h2:k<=s):mv g s d k=g (k-1):=by
 unfold mv;rw[aM (),aN ⟨h,h2⟩]
def yO{g:Nat->Nat}{k:Nat}(hd:d<=s)(h:k<d\/s<k):mv g s d k=g k:=by
 unfold mv;rw[aM (),aM ()]
section
variable {prog:aj}{w:ah}{A:aA}{E:af->aC->Prop}{s:aC}{o:Ord}{N:Nat}{f:Nat->Keyed}{kd:SortKind}{g:Nat->Nat}{p:Array (Nat×Nat×Nat)}{st:SortSt}
abbrev xJ (prog:aj)(w:ah)(A:aA)(s:aC)(o:Ord)(N:Nat)(f:Nat->Keyed)(kd:SortKind):Prop:=
 ∀i j,i<N->j<N->∀(E':af->aC->Prop) (Q:Bool->aC->Prop),Q (o.lt i j) s->wpAny (model prog w) A (keyLt' kd (f i).1 (f j).1) Q E' s
structure Sg (N:Nat)(f:Nat->Keyed)(kd:SortKind)(g:Nat->Nat)(p:Array (Nat×Nat×Nat))(st:SortSt):Prop where
 size:(arrOf st).size=N
 get:∀i,i<N->(arrOf st)[i]?=some (f (g i))
 lt:∀i,i<N->g i<N
 kind:kindOf st=kd
 failed:failedOf st=none
 pend:pendingOf st=p
def wc(C:xJ prog w A s o N f kd)(hk:kindOf st=kd)(hi:i<N)(hj:j<N){Q:bd->SortSt->Prop}(q:Q (some (o.lt i j)) st):wpS (model prog w) A E s (lt' (f i) (f j)) Q st:=by
 rw[lt'_eq];refine aS (gf ?_);rw[hk];refine aS (wpS_lift (wpAny_attempt (C i j hi hj _ _ ⟨rfl,?_⟩)));exact aZ q
def jA{xs:Array Keyed}{i:Nat}{x:Keyed}(e:xs[i]?=some x){Q:Keyed->SortSt->Prop}(q:Q x st):wpS (model prog w) A E s (elem' xs i) Q st:=by
 rw[elem'_eq,e];exact aZ q
def sP(C:xJ prog w A s o N f kd)(h:Sg N f kd g p st)(hi:i<N)(hj:j<N){Q:bd->SortSt->Prop}(q:Q (some (o.lt (g i) (g j))) st):wpS (model prog w) A E s (ltAt' i j) Q st:=by
 rw[ltAt'_eq];refine aS (gf ?_)
 skip
 exact aS (jA (h.get i hi) (aS (jA (h.get j hj) (wc C h.kind (h.lt i hi) (h.lt j hj) q))))
def Sg.arr(h:Sg N f kd g p st){xs:Array Keyed}{g':Nat->Nat}(hs:xs.size=N)(hg:∀i,i<N->xs[i]?=some (f (g' i)))(hl:∀i,i<N->g' i<N):Sg N f kd g' p (setArr st xs):=⟨hs,hg,hl,h.kind,h.failed,h.pend⟩
def u5(h:Sg N f kd g p st)(hj:j<=N){Q:Unit->SortSt->Prop}(q:∀st',Sg N f kd (rev g i j) p st'->Q Unit.unit st'):wpS (model prog w) A E s (reverseSlice' i j) Q st:=by
 rw[reverseSlice'_eq];refine eT (q _ (h.arr (by rw[mirror_size];exact h.size) (λk hk=>?_) λk hk=>?_))
 ·rw[getElem?_mirror_all (by rw[h.size];exact hj)];unfold rev;by_cases c:i<=k/\k<j
  ·rw[aN c,aN c];exact h.get _ (by omega)
  ·rw[aM c,aM c];exact h.get _ hk
 ·unfold rev;by_cases c:i<=k/\k<j
  ·rw[aN c];exact h.lt _ (by omega)
  ·rw[aM c];exact h.lt _ hk
def N9(h:Sg N f kd g p st){a:Nat}(ha:a<N)(hb:b<=a){Q:Unit->SortSt->Prop}(q:∀st',Sg N f kd (mv g a b) p st'->Q Unit.unit st'):wpS (model prog w) A E s (moveDown' a b) Q st:=by
 rw[moveDown'_eq];refine eT (q _ (h.arr (by rw[bubble_size];exact h.size) (λk hk=>?_) λk hk=>?_))
 ·rw[getElem?_bubble (by rw[h.size];exact ha) _ (),show a-(a-b)=b by lia];unfold mv;by_cases c:k=b
  ·rw[aN c,aN c];exact h.get _ ha
  ·rw[aM c,aM c];by_cases c2:b<k/\k<=a
   ·rw[aN c2,aN c2];exact h.get _ ()
   ·rw[aM c2,aM c2];exact h.get _ hk
 ·unfold mv;by_cases c:k=b
  ·rw[aN c];exact h.lt _ ha
  ·rw[aM c];by_cases c2:b<k/\k<=a
   ·rw[aN c2];exact h.lt _ ()
   ·rw[aM c2];exact h.lt _ hk
structure Rn (o:Ord)(g0 g:Nat->Nat)(a b:Nat):Prop where
 out:∀i,i<a\/b<=i->g i=g0 i
 cl:Cl g a b
 so:So o g a b
def Pq{g0:Nat->Nat}{lo k:Nat}(R:Rn o g0 g lo (lo+k))(hk:g (lo+k)=lo+k)(hl:l<=k)(h1:∀i,i<l->P o (g (lo+i)) (lo+k))(h2:∀i,l<=i->i<k->P o (lo+k) (g (lo+i))):Rn o g0 (mv g (lo+k) (lo+l)) lo (lo+(k+1)) where
 out i hi:=by rw[yO () ()];exact R.out i ()
 cl i a b:=by
  by_cases c:i=lo+l
  ·subst c;rw[HW,hk];lia
  ·by_cases c2:lo+l<i
   ·rw[Az c2 ()];have:=R.cl (i-1) () ()
    lia
   ·rw[yO () ()];have:=R.cl i () ()
    lia
 so i j a b d:=by
  by_cases c:i=lo+l
  ·subst c;rw[HW,Az b (),hk];have:=h2 (j-1-lo) () ()
   rwa [show lo+(j-1-lo)=j-1 by lia]at this
  ·by_cases c2:lo+l<i
   ·rw[Az c2 (),Az () ()];exact R.so _ _ () () ()
   ·rw[yO (k:=i) () ()];by_cases c3:j=lo+l
    ·subst c3;rw[HW,hk];have:=h1 (i-lo) ()
     rwa [show lo+(i-lo)=i by lia]at this
    ·by_cases c4:lo+l<j
     ·rw[Az c4 ()];exact R.so _ _ () () ()
     ·rw[yO () ()];exact R.so _ _ () () ()
def OP(C:xJ prog w A s o N f kd){g0:Nat->Nat}{lo n ok:Nat}(h:Sg N f kd g p st)(hn:lo+n<=N)(h1:1<=ok)(hok:ok<=n)(R:Rn o g0 g lo (lo+ok))(hid:∀i,lo+ok<=i->i<lo+n->g0 i=i)
  {Q:Bool->SortSt->Prop} (q:∀g' st',Sg N f kd g' p st'->Rn o g0 g' lo (lo+n)->Q true st'):wpS (model prog w) A E s (binarySort' lo n ok) Q st:=by
 rw[binarySort'_eq,show max ok 1=ok by lia];refine aS (dB (cu (I:=λk c st'=>c=(none,Unit.unit)/\∃g',Sg N f kd g' p st'/\Rn o g0 g' lo (lo+min k n))
  (Q:=λc st'=>c=(none,Unit.unit)/\∃g',Sg N f kd g' p st'/\Rn o g0 g' lo (lo+n)) ?step ?fin ?init) ?post)
 case post=>
  rintro c st' ⟨rfl,g',h',R'⟩;exact aZ (q g' st' h' R')
 case init=>exact⟨rfl,g,h,by rw[show min ok n=ok by lia];exact R⟩
 case fin=>
  rintro c st' ⟨hc,g',h',R'⟩;exact⟨hc,g',h',by rwa [show min (max ok n) n=n by lia]at R'⟩
 case step=>
  rintro k c st' hak hkn ⟨rfl,g',h',R'⟩;rw[show min k n=k by lia]at R';have gk:g' (lo+k)=lo+k:=by rw[R'.out _ ()];exact hid _ () ()
  refine aS (dB (cu (I:=λx c s2=>s2=st'/\∃u v,c=(none,u,v)/\u<=v/\v<=k/\v-u<=k-x /\
    (∀i,i<u->P o (g' (lo+i)) (lo+k))/\(∀i,v<=i->i<k->P o (lo+k) (g' (lo+i))))
   (Q:=λc s2=>s2=st'/\∃u v,c=(none,u,v)/\u<=k /\
    (∀i,i<u->P o (g' (lo+i)) (lo+k))/\(∀i,u<=i->i<k->P o (lo+k) (g' (lo+i)))) ?istep ?ifin ?iinit) ?ipost)
  case iinit=>exact⟨rfl,0,k,rfl,(),(),(),λi hi=>(),λi h1 h2=>()⟩
  case ifin=>
   rintro c s2 ⟨rfl,u,v,rfl,huv,hvk,hm,low,top⟩;have:u=v:=()
   subst this;exact⟨rfl,u,u,rfl,hvk,low,top⟩
  case istep=>
   rintro x c s2 _ hxk ⟨rfl,u,v,rfl,huv,hvk,hm,low,top⟩;dsimp only;by_cases hge:u>=v
   ·rw[aN hge];have:u=v:=()
    subst this;exact aZ ⟨rfl,u,u,rfl,hvk,low,top⟩
   ·rw[aM hge];have hmk:(u+v) / 2<k:=()
    have gm:=R'.cl (lo+(u+v) / 2) () ();refine aS (sP C h' () () ?_);rw[gk]
    cases hless:o.lt (lo+k) (g' (lo+(u+v) / 2))
    case true=>
     dsimp[cN];refine aZ ⟨rfl,u,(u+v) / 2,rfl,(),(),(),low,λi h1 h2=>?_⟩;by_cases c:i=(u+v) / 2
     ·subst c;exact .inl hless
     ·exact(P.of_lt hless).trans (R'.so _ _ () () ())
    case false=>
     dsimp[bF,cE];refine aZ ⟨rfl,(u+v) / 2+1,v,rfl,(),(),(),λi h1=>?_,top⟩;have last:=P.uM hless gm.2;by_cases c:i=(u+v) / 2
     ·subst c;exact last
     ·exact(R'.so _ _ () () ()).trans last
  case ipost=>
   rintro c s2 ⟨rfl,u,v,rfl,huk,low,top⟩;dsimp only;refine aS (N9 h' () () λst3 h3=>?_);refine aZ ⟨rfl,_,h3,?_⟩;rw[show min (k+1) n=k+1 by lia];exact Pq R' gk huk low top
end
meta abbrev As:=Option (bi)×Nat
meta abbrev Ds:=Option (bi)×Nat×Nat
abbrev Jh (lo a nrem:Nat):StateT SortSt Sem As:=
 forIn [a:nrem] ((none,a):As) λ_ c=>do
  let x <- ltAt' (lo+c.2) (lo+c.2-1)
  match x with
  | some b=>if b=true then pure (ForInStep.done (none,c.2))else pure (ForInStep.yield (none,c.2+1))
  | _=>pure (ForInStep.done (some none,c.2))
abbrev AX (lo n nrem:Nat):StateT SortSt Sem (bi):=do
 reverseSlice' lo (lo+n)
 let c <- Jh lo n nrem
 match c.1 with
 | some r=>pure r
 | none=>pure (some c.2)
abbrev Mt (lo n nrem:Nat):StateT SortSt Sem Ds:=
 forIn [n:nrem] ((none,n,0):Ds) λ_ c=>do
  let x <- ltAt' (lo+c.2.1) (lo+c.2.1-1)
  match x with
  | some b=>
   if b=true then
    if c.2.2>0 then do
     reverseSlice' (lo+c.2.1-(c.2.2+1)) (lo+c.2.1)
     pure (ForInStep.yield (none,c.2.1+1,0))
    else pure (ForInStep.yield (none,c.2.1+1,0))
   else do
    let x <- ltAt' (lo+c.2.1-1) (lo+c.2.1)
    match x with
    | some b=>
     if b=true then pure (ForInStep.done (none,c.2.1,c.2.2))
     else pure (ForInStep.yield (none,c.2.1+1,c.2.2+1))
    | _=>pure (ForInStep.done (some none,c.2.1,c.2.2))
  | _=>pure (ForInStep.done (some none,c.2.1,c.2.2))
abbrev GK (lo n nrem:Nat):StateT SortSt Sem (bi):=do
 liftM (rule "list.sort.descending-run")
 let c <- Mt lo (n+1) nrem
 match c.1 with
 | some r=>pure r
 | none=>
  if c.2.2>0 then do
   reverseSlice' (lo+c.2.1-(c.2.2+1)) (lo+c.2.1)
   AX lo c.2.1 nrem
  else AX lo c.2.1 nrem
def count_eq(lo nrem:Nat):countRun' lo nrem=(do
  let c <- Jh lo 1 nrem
  match c.1 with
  | some r=>pure r
  | none=>
   if (c.2 == nrem)=true then pure (some c.2)
   else if c.2>1 then do
    let x <- ltAt' lo (lo+c.2-1)
    match x with
    | some b=>if b=true then pure (some c.2)else do
      reverseSlice' lo (lo+c.2)
      GK lo c.2 nrem
    | _=>pure none
   else GK lo c.2 nrem):=by
 rw[countRun'_eq];dsimp only;unfold GK AX Mt Jh;congr 1
 funext c
 obtain⟨r,n⟩:=c
 cases r with
 | some r=>rfl
 | none=>
  dsimp only;split
  ·rfl
  ·split
   ·congr 1
    funext x
    cases x with
    | none=>rfl
    | some b=>
     dsimp only;split
     ·rfl
     ·congr 1
      funext _r
      congr 1
      funext _u
      congr 1;congr 1
      funext s2
      obtain⟨r2,n2,q2⟩:=s2
      cases r2 with
      | some r2=>rfl
      | none=>
       dsimp only;split
       ·congr 1
        funext _v
        congr 1
        funext _w
        congr 1
        funext s3
        obtain⟨r3,n3⟩:=s3
        cases r3<;>rfl
       ·congr 1
        funext _w
        congr 1
        funext s3
        obtain⟨r3,n3⟩:=s3
        cases r3<;>rfl
   ·congr 1
    funext _u
    congr 1;congr 1
    funext s2
    obtain⟨r2,n2,q2⟩:=s2
    cases r2 with
    | some r2=>rfl
    | none=>
     dsimp only;split
     ·congr 1
      funext _v
      congr 1
      funext _w
      congr 1
      funext s3
      obtain⟨r3,n3⟩:=s3
      cases r3<;>rfl
     ·congr 1
      funext _w
      congr 1
      funext s3
      obtain⟨r3,n3⟩:=s3
      cases r3<;>rfl
section
variable {prog:aj}{w:ah}{A:aA}{E:af->aC->Prop}{s:aC}{o:Ord}{N:Nat}{f:Nat->Keyed}{kd:SortKind}{g g0:Nat->Nat}{p:Array (Nat×Nat×Nat)}{st:SortSt}
def Rn.snoc{a:Nat}(R:Rn o g0 g a b)(hab:a<b)(hb:g b=b)(h:o.lt b (g (b-1))=false):Rn o g0 g a (b+1) where
 out i hi:=R.out i ()
 cl i h1 h2:=by
  by_cases c:i=b
  ·subst c;lia
  ·have:=R.cl i h1 ();lia
 so i j h1 h2 h3:=by
  by_cases c:j=b
  ·subst c;rw[hb];have l:=R.cl (j-1) () ();have last:P o (g (j-1)) j:=P.uM h l.2;by_cases c2:i=j-1
   ·subst c2;exact last
   ·exact(R.so i (j-1) h1 () ()).trans last
  ·exact R.so i j h1 h2 ()
def GI(C:xJ prog w A s o N f kd){lo a:Nat}(h:Sg N f kd g p st)(hn:lo+nrem<=N)(h1:1<=a)(han:a<=nrem)(R:Rn o g0 g lo (lo+a))(hid:∀i,lo+a<=i->i<lo+nrem->g0 i=i)
  {Q:As->SortSt->Prop} (q:∀n,a<=n->n<=nrem->Rn o g0 g lo (lo+n)->(n=nrem\/o.lt (lo+n) (g (lo+n-1))=true)->Q (none,n) st):wpS (model prog w) A E s (Jh lo a nrem) Q st:=by
 unfold Jh;refine cu (I:=λx c st'=>st'=st/\c=(none,x)/\Rn o g0 g lo (lo+x)) ?step ?fin ⟨rfl,rfl,R⟩
 case fin=>
  rintro c st' ⟨rfl,rfl,R'⟩;rw[show max a nrem=nrem by lia]at R' ⊢;exact q nrem han (aP _) R' (.inl rfl)
 case step=>
  rintro x c st' hax hxn ⟨rfl,rfl,R'⟩;dsimp only;have gx:g (lo+x)=lo+x:=by rw[R'.out _ ()];exact hid _ () ()
  refine aS (sP C h () () ?_);rw[gx]
  cases hl:o.lt (lo+x) (g (lo+x-1))
  case true=>
   dsimp[cN];exact aZ (q x hax () R' (.inr hl))
  case false=>
   dsimp[bF,cE];exact aZ ⟨rfl,rfl,R'.snoc () gx hl⟩
structure Dc (o:Ord)(g0 g:Nat->Nat)(a b q:Nat):Prop where
 out:∀i,i<a\/b<=i->g i=g0 i
 cl:Cl g a b
 few:a+(q+1)<=b
 dn:∀i j,a<=i->i<j->j<b->i<b-(q+1)->P o (g j) (g i)
 id:∀i,b-(q+1)<=i->i<b->g i=i
 al:∀i j,b-(q+1)<=i->i<b->b-(q+1)<=j->j<b->o.lt i j=false
def Dc.turn{a q:Nat}(D:Dc o g0 g a b q):(∀i,i<a\/b<=i->rev g (b-(q+1)) b i=g0 i)/\Cl (rev g (b-(q+1)) b) a b/\(∀i j,a<=i->i<j->j<b->P o (rev g (b-(q+1)) b j) (rev g (b-(q+1)) b i))/\(∀i,b-(q+1)<=i->i<b->∃k,rev g (b-(q+1)) b i=k/\b-(q+1)<=k/\k<b):=by
 have few:=D.few;have inn:∀i,b-(q+1)<=i->i<b->rev g (b-(q+1)) b i=b-(q+1)+b-1-i:=λi h1 h2=>by
  rw[v8 h1 h2];exact D.id _ (by omega) (by omega)
 refine⟨λi hi=>?_,λi h1 h2=>?_,λi j h1 h2 h3=>?_,λi h1 h2=>⟨_,inn i h1 h2,by omega,by omega⟩⟩
 ·rw[nK (by omega)];exact D.out i hi
 ·by_cases c:i<b-(q+1)
  ·rw[nK (by omega)];exact D.cl i h1 h2
  ·rw[inn i (by omega) h2];omega
 ·by_cases c:i<b-(q+1)
  ·rw[nK (k:=i) (by omega)];by_cases c2:j<b-(q+1)
   ·rw[nK (by omega)];exact D.dn i j h1 h2 h3 c
   ·rw[inn j (by omega) h3];have:=D.dn i (b-(q+1)+b-1-j) h1 (by omega) (by omega) c
    rwa [D.id _ (by omega) (by omega)]at this
  ·rw[inn i (by omega) (by omega),inn j (by omega) h3];exact P.uM (D.al _ _ (by omega) (by omega) (by omega) (by omega)) (by omega)
abbrev Fin (o:Ord)(g0 g:Nat->Nat)(a b:Nat):Prop:=(∀i,i<a\/b<=i->g i=g0 i)/\Cl g a b/\(∀i j,a<=i->i<j->j<b->P o (g j) (g i))
def Dc.A2{a:Nat}(D:Dc o g0 g a b 0):Fin o g0 g a b:=⟨D.out,D.cl,λi j h1 h2 h3=>D.dn i j h1 h2 h3 ()⟩
def Fin.rn{a:Nat}(D:Fin o g0 g a b):Rn o g0 (rev g a b) a b where
 out i hi:=by rw[nK hi];exact D.1 i hi
 cl i h1 h2:=by
  rw[v8 h1 h2];exact D.2.1 _ () ()
 so i j h1 h2 h3:=by
  rw[v8 h1 (),v8 () h3];exact D.2.2 _ _ () () ()
def Fin.add{a:Nat}(D:Fin o g0 g a b)(hb:g b=b)(hab:a<b)(h:∀i,a<=i->i<b->P o b (g i)):Dc o g0 g a (b+1) 0 where
 out i hi:=D.1 i ()
 cl i h1 h2:=by
  by_cases c:i=b
  ·subst c;lia
  ·have:=D.2.1 i h1 ();lia
 few:=()
 dn i j h1 h2 h3 _:=by
  by_cases c:j=b
  ·subst c;rw[hb];exact h i h1 h2
  ·exact D.2.2 i j h1 h2 ()
 id i h1 h2:=by
  have:i=b:=()
  rw[this,hb]
 al i j h1 h2 h3 h4:=by
  have:i=j:=()
  rw[this];exact o.Ma _
def DL(C:xJ prog w A s o N f kd){lo n:Nat}(h:Sg N f kd g p st)(hn:lo+nrem<=N)(h1:1<=n)(han:n<=nrem)(D:Fin o g0 g lo (lo+n))(hid:∀i,lo<=i->i<lo+nrem->g0 i=i)
  {Q:bi->SortSt->Prop} (q:∀m g' st',Sg N f kd g' p st'->1<=m->m<=nrem->Rn o g0 g' lo (lo+m)->Q (some m) st'):wpS (model prog w) A E s (AX lo n nrem) Q st:=by
 unfold AX;refine aS (u5 h () λst2 h2=>?_);exact aS (GI C h2 hn h1 han D.rn (λi a b=>hid i () b) λm hm1 hm2 R _=>aZ (q m _ _ h2 () hm2 R))
def P0(C:xJ prog w A s o N f kd){lo n:Nat}(h:Sg N f kd g p st)(hn:lo+nrem<=N)(h1:1<=n)(han:n<=nrem)(D:Dc o g0 g lo (lo+n) 0)(hid:∀i,lo<=i->i<lo+nrem->g0 i=i)
  {Q:Ds->SortSt->Prop} (q:∀m e g' st',Sg N f kd g' p st'->1<=m->m<=nrem->Dc o g0 g' lo (lo+m) e->Q (none,m,e) st'):wpS (model prog w) A E s (Mt lo n nrem) Q st:=by
 unfold Mt;refine cu (I:=λx c st'=>∃e g',c=(none,x,e)/\Sg N f kd g' p st'/\Dc o g0 g' lo (lo+x) e) ?step ?fin ⟨0,g,rfl,h,D⟩
 case fin=>
  rintro c st' ⟨e,g',rfl,h',D'⟩;rw[show max n nrem=nrem by lia]at D' ⊢;exact q nrem e g' st' h' () (aP _) D'
 case step=>
  rintro x c st' hax hxn ⟨e,g',rfl,h',D'⟩;dsimp only;have few:=D'.few;have gx:g' (lo+x)=lo+x:=by rw[D'.out _ ()];exact hid _ () ()
  have gy:g' (lo+x-1)=lo+x-1:=D'.id _ () ();refine aS (sP C h' () () ?_);rw[gx,gy]
  cases hl:o.lt (lo+x) (lo+x-1)
  case true=>
   dsimp[cN];by_cases he:e>0
   ·rw[aN he];obtain⟨t1,t2,t3,t4⟩:=D'.turn;refine aS (u5 h' () λst2 h2=>aZ ⟨0,_,rfl,h2,?_⟩);refine Fin.add (b:=lo+x) ⟨t1,t2,t3⟩ (by rw[nK ()];exact gx) () λi a b=>?_;by_cases c:lo+x-(e+1)<=i
    ·obtain⟨k,ek,k1,k2⟩:=t4 i c b;rw[ek]
     rcases o.neg _ k _ hl with z|z
     ·exact .inl z
     ·rw[D'.al _ _ k1 k2 () ()]at z;cases z
    ·rw[nK ()];have:=D'.dn i (lo+x-1) a () () ();rw[gy]at this;exact(P.of_lt hl).trans this
   ·rw[aM he];have:e=0:=()
    subst this;refine aZ ⟨0,_,rfl,h',Fin.add (b:=lo+x) D'.A2 gx () λi a b=>?_⟩;by_cases c:i=lo+x-1
    ·subst c;rw[gy];exact .inl hl
    ·have:=D'.dn i (lo+x-1) a () () ();rw[gy]at this;exact(P.of_lt hl).trans this
  case false=>
   dsimp[bF,cE];refine aS (sP C h' () () ?_);rw[gx,gy]
   cases hg:o.lt (lo+x-1) (lo+x)
   case true=>
    dsimp[cN];exact aZ (q x e g' st' h' () () D')
   case false=>
    dsimp[bF,cE];refine aZ ⟨e+1,g',rfl,h',?_⟩;have eq1:∀i,lo+x-(e+1)<=i->i<lo+x->o.lt i (lo+x)=false/\o.lt (lo+x) i=false:=λi a b=>by
     constructor
     ·cases z:o.lt i (lo+x)with
      | false=>rfl
      | true=>
       rcases o.neg _ (lo+x-1) _ z with y|y
       ·rw[D'.al _ _ a b () ()]at y;cases y
       ·rw[hg]at y;cases y
     ·cases z:o.lt (lo+x) i with
      | false=>rfl
      | true=>
       rcases o.neg _ (lo+x-1) _ z with y|y
       ·rw[hl]at y;cases y
       ·rw[D'.al _ _ () () a b]at y;cases y
    exact {
     out:=λi hi=>D'.out i ()
     cl:=λi a b=>by
      by_cases c:i=lo+x
      ·subst c;lia
      ·have:=D'.cl i a ();lia
     few:=()
     dn:=λi j a b c d=>by
      by_cases z:j=lo+x
      ·subst z;rw[gx];have y:=D'.dn i (lo+x-1) a () () ();rw[gy]at y;have gi:=D'.cl i a ()
       rcases y with y|⟨_,y⟩
       ·rcases o.neg _ (lo+x) _ y with v|v
        ·rw[hg]at v;cases v
        ·exact .inl v
       ·lia
      ·exact D'.dn i j a b () ()
     id:=λi a b=>by
      by_cases z:i=lo+x
      ·subst z;exact gx
      ·exact D'.id i () ()
     al:=λi j a b c d=>by
      by_cases z:i=lo+x
      ·subst z;by_cases y:j=lo+x
       ·subst y;exact o.Ma _
       ·exact(eq1 j () ()).2
      ·by_cases y:j=lo+x
       ·subst y;exact(eq1 i () ()).1
       ·exact D'.al i j () () () ()}
def DR(C:xJ prog w A s o N f kd){lo n:Nat}(h:Sg N f kd g p st)(hn:lo+nrem<=N)(han:n+1<=nrem)(D:Dc o g0 g lo (lo+(n+1)) 0)(hid:∀i,lo<=i->i<lo+nrem->g0 i=i)
  {Q:bi->SortSt->Prop} (q:∀m g' st',Sg N f kd g' p st'->1<=m->m<=nrem->Rn o g0 g' lo (lo+m)->Q (some m) st'):wpS (model prog w) A E s (GK lo n nrem) Q st:=by
 unfold GK;kpf_c;refine aS (P0 C h hn () han D hid λm e g' st' h' m1 m2 D'=>?_);dsimp only;by_cases he:e>0
 ·rw[aN he];obtain⟨t1,t2,t3,_⟩:=D'.turn;exact aS (u5 h' () λst2 h2=>DL C h2 hn m1 m2 ⟨t1,t2,t3⟩ hid q)
 ·rw[aM he];have:e=0:=()
  subst this;exact DL C h' hn m1 m2 D'.A2 hid q
def wK(C:xJ prog w A s o N f kd){lo:Nat}(h:Sg N f kd g p st)(hn:lo+nrem<=N)(h1:1<=nrem)(hid:∀i,lo<=i->i<lo+nrem->g i=i)
  {Q:bi->SortSt->Prop} (q:∀m g' st',Sg N f kd g' p st'->1<=m->m<=nrem->Rn o g g' lo (lo+m)->Q (some m) st'):wpS (model prog w) A E s (countRun' lo nrem) Q st:=by
 rw[count_eq];refine aS (GI C h hn (aP 1) h1 (g0:=g) ⟨λ_ _=>rfl,λi a b=>?_,λi j a b c=>()⟩ (λi a b=>hid i () b) λn n1 n2 R hor=>?_)
 ·have:i=lo:=()
  subst this;rw[hid i (aP _) ()];lia
 dsimp only;by_cases hnn:n=nrem
 ·rw[aN (by simpa using hnn)];exact aZ (q n g st h n1 n2 R)
 ·rw[aM (by simpa using hnn)];have hlt:=hor.resolve_left hnn;rw[hid (lo+n-1) () ()]at hlt;have gn:g (lo+n)=lo+n:=hid _ () ();by_cases hgt:n>1
  ·rw[aN hgt];refine aS (sP C h () () ?_);rw[hid lo () (),hid (lo+n-1) () ()]
   cases hr:o.lt lo (lo+n-1)
   case true=>
    dsimp[cN];exact aZ (q n g st h n1 n2 R)
   case false=>
    dsimp[bF,cE];have id':∀i,lo<=i->i<lo+n->g i=i:=λi a b=>hid i a ();have pp:∀i j,lo<=i->i<j->j<lo+n->o.lt i j=false/\o.lt j i=false:=λi j a b c=>by
     have r:=R.so i j a b c;rw[id' i a (),id' j () c]at r;refine⟨?_,r.ge⟩
     cases z:o.lt i j with
     | false=>rfl
     | true=>
      rcases o.neg _ lo _ z with y|y
      ·by_cases x:i=lo
       ·subst x;rw[o.Ma]at y;cases y
       ·have r2:=R.so lo i () () ();rw[id' i a (),id' lo () ()]at r2;rw[r2.ge]at y;cases y
      ·rcases o.neg _ (lo+n-1) _ y with x|x
       ·rw[hr]at x;cases x
       ·by_cases v:j=lo+n-1
        ·subst v;rw[o.Ma]at x;cases x
        ·have r2:=R.so j (lo+n-1) () () ();rw[id' j () c,id' (lo+n-1) () ()]at r2;rw[r2.ge]at x;cases x
    refine aS (u5 h () λst2 h2=>DR C h2 hn () ?_ hid q);have rin:∀i,lo<=i->i<lo+n->rev g lo (lo+n) i=lo+(lo+n)-1-i:=λi a b=>by rw[v8 a b];exact id' _ () ()
    refine Fin.add (b:=lo+n) ⟨λi hi=>nK hi,λi a b=>by rw[rin i a b];lia,λi j a b c=>?_⟩ (by rw[nK ()];exact gn) () λi a b=>?_
    ·rw[rin i a (),rin j () c];exact P.uM (pp _ _ () () ()).2 ()
    ·rw[rin i a b];by_cases x:lo+(lo+n)-1-i=lo+n-1
     ·rw[x];exact .inl hlt
     ·rcases o.neg _ (lo+(lo+n)-1-i) _ hlt with z|z
      ·exact .inl z
      ·rw[(pp _ _ () () ()).1]at z;cases z
  ·rw[aM hgt];have:n=1:=()
   subst this;refine DR C h hn () ?_ hid q;refine Fin.add (b:=lo+1) ⟨λi hi=>rfl,R.cl,λi j a b c=>()⟩ gn () λi a b=>?_;have:i=lo:=()
   subst this;rw[hid i () ()];rw[show i+1-1=i by lia]at hlt;exact .inl hlt
end
abbrev kO:Bool->Keyed->Array Keyed->Nat->Nat->Nat->StateT SortSt Sem (bi):=sortPriv% PySem.Builtin.gallop
abbrev Pj (ask:Nat->StateT SortSt Sem (bd))(n at0:Nat):StateT SortSt Sem (bi):=do
 let mut was:=0
 let mut far:=1
 let mut low:=0
 let mut top:=0
 let some yes <- ask at0|return none
 if yes then
  let most:=n-at0
  for _ in [0:n] do
   if far>=most then break
   let some ok <- ask (at0+far)|return none
   if !ok then break
   was:=far
   far:=2 * far+1
  low:=at0+was+1
  top:=at0+min far most
 else
  let most:=at0+1
  for _ in [0:n] do
   if far>=most then break
   let some hit <- ask (at0-far)|return none
   if hit then break
   was:=far
   far:=2 * far+1
  low:=at0+1-min far most
  top:=at0-was
 for _ in [0:n] do
  if low>=top then break
  let m:=low+(top-low) / 2
  let some ok <- ask m|return none
  if ok then low:=m+1 else top:=m
 return some top
def xO(left:Bool)(key:Keyed)(arr:Array Keyed)(base n hint:Nat):kO left key arr base n hint=Pj (λi=>do
  let x <- elem' arr (base+i)
  if left then lt' x key else return (<- lt' key x).map (!·)) n hint:=rfl
section
variable {prog:aj}{w:ah}{A:aA}{E:af->aC->Prop}{s:aC}{st:SortSt}
abbrev Td (be:Nat->StateT SortSt Sem (bd))(n l0 h0:Nat):StateT SortSt Sem (bi):=do
 let mut low:=l0
 let mut top:=h0
 for _ in [0:n] do
  if low>=top then break
  let m:=low+(top-low) / 2
  let some ok <- be m|return none
  if ok then low:=m+1 else top:=m
 return some top
def Nv{be:Nat->StateT SortSt Sem (bd)}{n h0:Nat}(b:Nat->Bool)(hbe:∀i,i<n->∀Q:bd->SortSt->Prop,Q (some (b i)) st->wpS (model prog w) A E s (be i) Q st)(hb:∀i j,i<=j->j<n->b j=true->b i=true)
  (hlh:l0<=h0) (hn:h0<=n) (hl:∀i,i<l0->b i=true) (hh:∀i,h0<=i->i<n->b i=false)
  {Q:bi->SortSt->Prop} (q:∀k,k<=n->(∀i,i<k->b i=true)->(∀i,k<=i->i<n->b i=false)->Q (some k) st):wpS (model prog w) A E s (Td be n l0 h0) Q st:=by
 unfold Td;refine aS (dB (cu (I:=λx c st'=>st'=st/\∃lo hi,c=(none,lo,hi)/\lo<=hi/\hi<=n/\hi-lo<=n-x/\(∀i,i<lo->b i=true)/\(∀i,hi<=i->i<n->b i=false))
  (Q:=λc st'=>st'=st/\∃k,c=(none,k,k)/\k<=n/\(∀i,i<k->b i=true)/\(∀i,k<=i->i<n->b i=false)) ?step ?fin ⟨rfl,l0,h0,rfl,hlh,hn,(),hl,hh⟩) ?post)
 case post=>
  rintro c st' ⟨rfl,k,rfl,h1,h2,h3⟩;exact aZ (q k h1 h2 h3)
 case fin=>
  rintro c st' ⟨rfl,lo,hi,rfl,h1,h2,h3,h4,h5⟩;have:lo=hi:=()
  subst this;exact⟨rfl,lo,rfl,h2,h4,h5⟩
 case step=>
  rintro x c st' _ hx ⟨rfl,lo,hi,rfl,h1,h2,h3,h4,h5⟩;dsimp only;by_cases hge:lo>=hi
  ·rw[aN hge];have:lo=hi:=()
   subst this;exact aZ ⟨rfl,lo,rfl,h2,h4,h5⟩
  ·rw[aM hge];have hm:lo+(hi-lo) / 2<hi:=()
   obtain⟨m,hm'⟩:∃m,m=lo+(hi-lo) / 2:=⟨_,rfl⟩;rw[<- hm']at hm ⊢;refine aS (hbe m () _ ?_)
   cases hv:b m
   ·dsimp[bF,cE];refine aZ ⟨rfl,lo,m,rfl,(),(),(),h4,λi a c=>?_⟩
    cases z:b i with
    | false=>rfl
    | true=>rw[hb m i a c z]at hv;cases hv
   ·dsimp[cN];exact aZ ⟨rfl,m+1,hi,rfl,(),h2,(),λi a=>hb i m () () hv,h5⟩
def DF{be:Nat->StateT SortSt Sem (bd)}{n:Nat}(b:Nat->Bool)(hbe:∀i,i<n->∀Q:bd->SortSt->Prop,Q (some (b i)) st->wpS (model prog w) A E s (be i) Q st)(hb:∀i j,i<=j->j<n->b j=true->b i=true)(hh:hint<n)
  {Q:bi->SortSt->Prop} (q:∀k,k<=n->(∀i,i<k->b i=true)->(∀i,k<=i->i<n->b i=false)->Q (some k) st):wpS (model prog w) A E s (Pj be n hint) Q st:=by
 unfold Pj;have hb':∀i j,i<=j->j<n->b i=false->b j=false:=λi j a c d=>by
  cases z:b j with
  | false=>rfl
  | true=>rw[hb i j a c z]at d;cases d
 refine aS (hbe hint hh _ ?_)
 cases hr:b hint
 ·dsimp only;dsimp[bF,cE];refine aS (dB (cu (I:=λx c st'=>st'=st/\∃l u,c=(none,l,u)/\x+1<=u/\l<u/\l<=hint/\b (hint-l)=false)
   (Q:=λc st'=>st'=st/\∃l u,c=(none,l,u)/\l<u/\l<=hint/\b (hint-l)=false/\(u>=hint+1\/b (hint-u)=true)) ?step ?fin ⟨rfl,0,1,rfl,by omega,by omega,by omega,hr⟩) ?post)
  case post=>
   rintro c st' ⟨rfl,l,u,rfl,h1,h2,h3,h4⟩;dsimp only;refine(Nv b hbe hb (l0:=hint+1-min u (hint+1)) (h0:=hint-l) (by omega) (by omega) (λi a=>?_) (λi a c=>hb' _ _ a c h3) q:wpS (model prog w) A E s (Td be n _ _) Q st')
   rcases h4 with h4|h4
   ·omega
   ·exact hb i (hint-u) (by omega) (by omega) h4
  case fin=>
   rintro c st' ⟨rfl,l,u,rfl,h1,h2,h3,h4⟩;exact⟨rfl,l,u,rfl,h2,h3,h4,.inl (by omega)⟩
  case step=>
   rintro x c st' _ hx ⟨rfl,l,u,rfl,h1,h2,h3,h4⟩;dsimp only;by_cases hge:u>=hint+1
   ·rw[aN hge];exact aZ ⟨rfl,l,u,rfl,h2,h3,h4,.inl hge⟩
   ·rw[aM hge];refine aS (hbe _ (by omega) _ ?_)
    cases hv:b (hint-u)
    ·dsimp[bF,cE];exact aZ ⟨rfl,u,2 * u+1,rfl,by omega,by omega,by omega,hv⟩
    ·dsimp[cN];exact aZ ⟨rfl,l,u,rfl,h2,h3,h4,.inr hv⟩
 ·dsimp only;dsimp[cN];refine aS (dB (cu (I:=λx c st'=>st'=st/\∃l u,c=(none,l,u)/\x+1<=u/\l<u/\hint+l<n/\b (hint+l)=true)
   (Q:=λc st'=>st'=st/\∃l u,c=(none,l,u)/\l<u/\hint+l<n/\b (hint+l)=true/\(u>=n-hint\/b (hint+u)=false)) ?Jy ?fin2 ⟨rfl,0,1,rfl,by omega,by omega,by omega,hr⟩) ?post2)
  case post2=>
   rintro c st' ⟨rfl,l,u,rfl,h1,h2,h3,h4⟩;dsimp only;refine(Nv b hbe hb (l0:=hint+l+1) (h0:=hint+min u (n-hint)) (by omega) (by omega) (λi a=>hb i _ (by omega) h2 h3) (λi a c=>?_) q:wpS (model prog w) A E s (Td be n _ _) Q st')
   rcases h4 with h4|h4
   ·omega
   ·exact hb' (hint+u) i (by omega) c h4
  case fin2=>
   rintro c st' ⟨rfl,l,u,rfl,h1,h2,h3,h4⟩;exact⟨rfl,l,u,rfl,h2,h3,h4,.inl (by omega)⟩
  case Jy=>
   rintro x c st' _ hx ⟨rfl,l,u,rfl,h1,h2,h3,h4⟩;dsimp only;by_cases hge:u>=n-hint
   ·rw[aN hge];exact aZ ⟨rfl,l,u,rfl,h2,h3,h4,.inl hge⟩
   ·rw[aM hge];refine aS (hbe _ (by omega) _ ?_)
    cases hv:b (hint+u)
    ·dsimp[gg,cN];exact aZ ⟨rfl,l,u,rfl,h2,h3,h4,.inr hv⟩
    ·dsimp[gJ,bF,cE];exact aZ ⟨rfl,u,2 * u+1,rfl,by omega,by omega,by omega,hv⟩
end
section
variable {prog:aj}{w:ah}{A:aA}{E:af->aC->Prop}{s:aC}{o:Ord}{N:Nat}{f:Nat->Keyed}{kd:SortKind}{st:SortSt}
def Ii(C:xJ prog w A s o N f kd)(hk:kindOf st=kd){base n:Nat}{arr:Array Keyed}{h:Nat->Nat}(ha:∀i,i<n->arr[base+i]?=some (f (h i)))(hN:∀i,i<n->h i<key)(hkN:key<N)(so:So o h 0 n)(hh:hint<n)
  {Q:bi->SortSt->Prop} (q:∀k,k<=n->(∀i,i<k->P o (h i) key)->(∀i,k<=i->i<n->P o key (h i))->Q (some k) st):wpS (model prog w) A E s (kO false (f key) arr base n hint) Q st:=by
 rw[xO];refine DF (λi=>!o.lt key (h i)) (λi hi Q' q'=>?_) (λi j a b c=>?_) hh λk h1 h2 h3=>q k h1 (λi a=>?_) λi a b=>?_
 ·refine aS (jA (ha i hi) ?_);dsimp[bF,cE];exact aS (wc C hk hkN (by have:=hN i hi;lia) (aZ q'))
 ·by_cases z:i=j
  ·subst z;exact c
  ·have r:=so i j (cF _) () b;have c':o.lt key (h j)=false:=by simpa using c
   cases e:o.lt key (h i)with
   | false=>rfl
   | true=>
    have:=(P.of_lt e).trans r;rw[this.lt (hN j b)]at c';cases c'
 ·have:=h2 i a;exact P.uM (by simpa using this) (hN i ())
 ·have:=h3 i a b;exact .inl (by simpa using this)
def Hg(C:xJ prog w A s o N f kd)(hk:kindOf st=kd){base n:Nat}{arr:Array Keyed}{h:Nat->Nat}(ha:∀i,i<n->arr[base+i]?=some (f (h i)))(hN:∀i,i<n->key<h i/\h i<N)(so:So o h 0 n)(hh:hint<n)
  {Q:bi->SortSt->Prop} (q:∀k,k<=n->(∀i,i<k->P o (h i) key)->(∀i,k<=i->i<n->P o key (h i))->Q (some k) st):wpS (model prog w) A E s (kO true (f key) arr base n hint) Q st:=by
 rw[xO];refine DF (λi=>o.lt (h i) key) (λi hi Q' q'=>?_) (λi j a b c=>?_) hh λk h1 h2 h3=>q k h1 (λi a=>?_) λi a b=>?_
 ·refine aS (jA (ha i hi) ?_);dsimp[cN];exact wc C hk (hN i hi).2 (by have:=hN i hi;lia) q'
 ·by_cases z:i=j
  ·subst z;exact c
  ·have r:=so i j (cF _) () b;exact(r.trans (P.of_lt c)).lt (hN i ()).1
 ·exact .inl (h2 i a)
 ·exact P.uM (h3 i a b) (hN i b).1
end
abbrev vQ:Array Keyed->Array Keyed->StateT SortSt Sem (Array Keyed):=sortPriv% PySem.Builtin.mergeLo
abbrev w_:Array Keyed->Array Keyed->StateT SortSt Sem (Array Keyed):=sortPriv% PySem.Builtin.mergeHi
abbrev uI:Nat->StateT SortSt Sem Unit:=sortPriv% PySem.Builtin.setMinGallop
def Mf(m:Nat):uI m=modify λs=>SortSt.mk' (kindOf s) (arrOf s) (pendingOf s) m (failedOf s):=rfl
def BA(a b:Array Keyed):vQ a b=(do
 rule "list.sort.merge-lo"
 let all_:=a.size+b.size
 let end1 (acc:Array Keyed) (p q:Nat):=acc++a.extract p a.size++b.extract q b.size
 let end2 (acc:Array Keyed) (p q:Nat):=acc++b.extract q b.size++a.extract p a.size
 let mut acc:Array Keyed:=#[<- elem' b 0]
 let mut p:=0
 let mut q:=1
 if q == b.size then return end1 acc p q
 if p+1 == a.size then return end2 acc p q
 let mut mg:=gallopOf (<- get)
 for _ in [0:all_] do
  let mut ca:=0
  let mut cb:=0
  for _ in [0:all_] do
   let some won <- lt' (<- elem' b q) (<- elem' a p)|return end1 acc p q
   if won then
    acc:=acc.push (<- elem' b q);q:=q+1;cb:=cb+1;ca:=0
    if q == b.size then return end1 acc p q
    if cb>=mg then break
   else
    acc:=acc.push (<- elem' a p);p:=p+1;ca:=ca+1;cb:=0
    if p+1 == a.size then return end2 acc p q
    if ca>=mg then break
  rule "list.sort.gallop"
  mg:=mg+1
  for _ in [0:all_] do
   if mg>1 then mg:=mg-1
   uI mg
   let some k <- kO false (<- elem' b q) a p (a.size-p) 0|return end1 acc p q
   ca:=k
   if k>0 then
    acc:=acc++a.extract p (p+k);p:=p+k
    if p+1 == a.size then return end2 acc p q
    if p == a.size then return end1 acc p q
   acc:=acc.push (<- elem' b q);q:=q+1
   if q == b.size then return end1 acc p q
   let some k <- kO true (<- elem' a p) b q (b.size-q) 0|return end1 acc p q
   cb:=k
   if k>0 then
    acc:=acc++b.extract q (q+k);q:=q+k
    if q == b.size then return end1 acc p q
   acc:=acc.push (<- elem' a p);p:=p+1
   if p+1 == a.size then return end2 acc p q
   if ca<7 && cb<7 then break
  mg:=mg+1
  uI mg
 unsupported "internal:list.sort.merge-bound"):=rfl
section
variable {o:Ord}{N:Nat}{f:Nat->Keyed}{A B hs:ag}{ia ib:Nat}
abbrev fa (f:Nat->Keyed)(l:ag):Array Keyed:=(l.map f).toArray
def lq(l:ag):(fa f l).size=l.length:=by unfold fa;rw[aQ,aK]
def GQ(l:ag)(i:Nat):(fa f l)[i]?=(l[i]?).map f:=by unfold fa;rw[eZ,aT]
def kR{l:ag}{i x:Nat}(h:l[i]?=some x):(fa f l)[i]?=some (f x):=by rw[GQ,h];rfl
def su(l:ag)(x:Nat):(fa f l).push (f x)=fa f (l++[x]):=by
 unfold fa;rw[List.push_toArray,bT];rfl
def oi(l m:ag):fa f l++fa f m=fa f (l++m):=by
 unfold fa;rw[List.append_toArray,bT]
def uo(l:ag)(i j:Nat):(fa f l).extract i j=fa f ((l.drop i).take (j-i)):=by
 unfold fa;rw[List.extract_toArray,List.extract_eq_take_drop,map_take,map_drop]
def vf(l:ag)(i:Nat):(fa f l).extract i l.length=fa f (l.drop i):=by
 rw[uo,cQ (by rw[cB];lia)]
structure Ab (o:Ord)(N:Nat)(A B:ag):Prop where
 sa:A.Pairwise (P o)
 sb:B.Pairwise (P o)
 lt:∀x∈A,∀y∈B,x<y
 nb:∀y∈B,y<N
 na:∀x∈A,x<N
structure Mg (o:Ord)(A B hs:ag)(ia ib:Nat):Prop where
 la:ia<=A.length
 lb:ib<=B.length
 len:hs.length=ia+ib
 so:hs.Pairwise (P o)
 mem:∀x∈hs,x∈A\/x∈B
 ua:∀x∈hs,∀y∈A.drop ia,P o x y
 ub:∀x∈hs,∀y∈B.drop ib,P o x y
abbrev Res (o:Ord)(f:Nat->Keyed)(A B:ag)(out:Array Keyed):Prop:=∃hs:ag,out=fa f hs/\hs.length=A.length+B.length/\hs.Pairwise (P o)/\∀x∈hs,x∈A\/x∈B
def qC{l:ag}(h:l.Pairwise (P o)){i j x:Nat}(hx:l[i]?=some x)(hy:l[j]?=some y)(hij:i<j):P o x y:=by
 obtain⟨h1,e1⟩:=aJ.mp hx;obtain⟨h2,e2⟩:=aJ.mp hy;rw[<- e1,<- e2];exact cT.mp h i j h1 h2 hij
def sf{l:ag}{y:Nat}(h:y∈l.drop i):∃j,i<=j/\l[j]?=some y:=by
 obtain⟨k,hk⟩:=dY h;rw[eU]at hk;exact⟨i+k,(),hk⟩
def Mg.uJ(ab:Ab o N A B)(m:Mg o A B hs ia ib){x:Nat}(hx:A[ia]?=some x)(h:∀y∈B.drop ib,P o x y):Mg o A B (hs++[x]) (ia+1) ib:=by
 obtain⟨h1,e1⟩:=aJ.mp hx;have hd:A.drop ia=x::A.drop (ia+1):=by rw[<- e1];exact bQ h1
 refine⟨(),m.lb,by rw[aU,m.len];show ia+ib+1=_;lia,?_,λz hz=>?_,λz hz y hy=>?_,λz hz y hy=>?_⟩
 ·rw[bZ];exact⟨m.so,dw ..,λa ha b hb=>by rw[bB.mp hb];exact m.ua a ha x (by rw[hd];exact aW ..)⟩
 ·rcases bh.mp hz with z'|z'
  ·exact m.mem z z'
  ·rw[bB.mp z'];exact .inl (aY hx)
 ·rcases bh.mp hz with z'|z'
  ·exact m.ua z z' y (by rw[hd];exact aV _ hy)
  ·rw[bB.mp z'];obtain⟨j,hj,ej⟩:=sf hy;exact qC ab.sa hx ej ()
 ·rcases bh.mp hz with z'|z'
  ·exact m.ub z z' y hy
  ·rw[bB.mp z'];exact h y hy
def Ab.ve(ab:Ab o N A B)(m:Mg o A B hs ia ib){x:Nat}(hx:B[ib]?=some x)(h:∀y∈A.drop ia,P o x y):Mg o A B (hs++[x]) ia (ib+1):=by
 obtain⟨h1,e1⟩:=aJ.mp hx;have hd:B.drop ib=x::B.drop (ib+1):=by rw[<- e1];exact bQ h1
 refine⟨m.la,(),by rw[aU,m.len];rfl,?_,λz hz=>?_,λz hz y hy=>?_,λz hz y hy=>?_⟩
 ·rw[bZ];exact⟨m.so,dw ..,λa ha b hb=>by rw[bB.mp hb];exact m.ub a ha x (by rw[hd];exact aW ..)⟩
 ·rcases bh.mp hz with z'|z'
  ·exact m.mem z z'
  ·rw[bB.mp z'];exact .inr (aY hx)
 ·rcases bh.mp hz with z'|z'
  ·exact m.ua z z' y hy
  ·rw[bB.mp z'];exact h y hy
 ·rcases bh.mp hz with z'|z'
  ·exact m.ub z z' y (by rw[hd];exact aV _ hy)
  ·rw[bB.mp z'];obtain⟨j,hj,ej⟩:=sf hy;exact qC ab.sb hx ej ()
def pH{l:ag}(h:l.Pairwise (P o)){i x:Nat}(hx:l[i]?=some x)(hxy:P o y x):∀z∈l.drop i,P o y z:=λz hz=>by
 obtain⟨j,hj,ej⟩:=sf hz;by_cases c:j=i
 ·subst c;rw[hx]at ej;cases ej;exact hxy
 ·exact hxy.trans (qC h hx ej ())
def take_snoc{l:ag}{k x:Nat}(h:l[i+k]?=some x):(l.drop i).take (k+1)=(l.drop i).take k++[x]:=by
 have h':(l.drop i)[k]?=some x:=by rw[eU];exact h
 obtain⟨h1,e1⟩:=aJ.mp h';rw[c7 h1,e1]
theorem Mg.v9(ab:Ab o N A B)(m:Mg o A B hs ia ib)(hy:B[ib]?=some y):∀k,ia+k<=A.length->(∀i x,i<k->A[ia+i]?=some x->P o x y)->Mg o A B (hs++(A.drop ia).take k) (ia+k) ib
 | 0,_,_=>by rw[fj,cA];exact m
 | k+1,hk,h=>by
  have ih:=Mg.v9 ab m hy k () λi x hi=>h i x ();have hx:A[ia+k]?=some (A[ia+k]'()):=aG _;rw[take_snoc hx,<- bH];exact ih.uJ ab hx (pH ab.sb hy (h k _ () hx))
theorem Mg.vY(ab:Ab o N A B)(m:Mg o A B hs ia ib)(hy:A[ia]?=some y):∀k,ib+k<=B.length->(∀i x,i<k->B[ib+i]?=some x->P o x y)->Mg o A B (hs++(B.drop ib).take k) ia (ib+k)
 | 0,_,_=>by rw[fj,cA];exact m
 | k+1,hk,h=>by
  have ih:=Mg.vY ab m hy k () λi x hi=>h i x ();have hx:B[ib+k]?=some (B[ib+k]'()):=aG _;rw[take_snoc hx,<- bH];exact ab.ve ih hx (pH ab.sa hy (h k _ () hx))
def u9{l:ag}(h:l.Pairwise (P o))(i:Nat):(l.drop i).Pairwise (P o):=h.sublist (List.drop_sublist ..)
def Mg.fin(ab:Ab o N A B)(m:Mg o A B hs ia ib)(h:∀x∈A.drop ia,∀y∈B.drop ib,P o x y):Res o f A B (fa f hs++(fa f A).extract ia A.length++(fa f B).extract ib B.length):=by
 rw[vf,vf,oi,oi];have la:=m.la;have lb:=m.lb;refine⟨_,rfl,by rw[aU,aU,m.len,cB,cB];lia,?_,λx hx=>?_⟩
 ·rw[bZ,bZ];refine⟨⟨m.so,u9 ab.sa _,m.ua⟩,u9 ab.sb _,λx hx y hy=>?_⟩
  rcases bh.mp hx with z|z
  ·exact m.ub x z y hy
  ·exact h x z y hy
 ·rcases bh.mp hx with z|z
  ·rcases bh.mp z with z|z
   ·exact m.mem x z
   ·exact .inl (dZ z)
  ·exact .inr (dZ z)
def Mg.NP(ab:Ab o N A B)(m:Mg o A B hs ia ib)(h:∀x∈A.drop ia,∀y∈B.drop ib,P o y x):Res o f A B (fa f hs++(fa f B).extract ib B.length++(fa f A).extract ia A.length):=by
 rw[vf,vf,oi,oi];have la:=m.la;have lb:=m.lb;refine⟨_,rfl,by rw[aU,aU,m.len,cB,cB];lia,?_,λx hx=>?_⟩
 ·rw[bZ,bZ];refine⟨⟨m.so,u9 ab.sb _,m.ub⟩,u9 ab.sa _,λx hx y hy=>?_⟩
  rcases bh.mp hx with z|z
  ·exact m.ua x z y hy
  ·exact h y hy x z
 ·rcases bh.mp hx with z|z
  ·rcases bh.mp z with z|z
   ·exact m.mem x z
   ·exact .inr (dZ z)
  ·exact .inl (dZ z)
def drop_nil{l:ag}(h:l.length<=i):l.drop i=[]:=List.drop_eq_nil_of_le h
def DS{l:ag}(h:l.Pairwise (P o))(b n:Nat)(hn:b+n<=l.length):So o (λi=>l.getD (b+i) 0) 0 n:=λi j _ hij hj=>
 qC h (i:=b+i) (j:=b+j) (by show _=some (l.getD (b+i) 0);rw[aI,aG (show b+i<l.length by lia)];rfl) (by show _=some (l.getD (b+j) 0);rw[aI,aG (show b+j<l.length by lia)];rfl) ()
def getD_at{l:ag}{i:Nat}(h:i<l.length):l[i]?=some (l.getD i 0):=by
 rw[aI,aG h];rfl
end
structure Sm (st st':SortSt):Prop where
 a:arrOf st'=arrOf st
 k:kindOf st'=kindOf st
 p:pendingOf st'=pendingOf st
 f:failedOf st'=failedOf st
def Sm.refl{st:SortSt}:Sm st st:=⟨rfl,rfl,rfl,rfl⟩
def Sm.trans{st:SortSt}(a:Sm st st')(b:Sm st' st''):Sm st st'':=⟨b.a.trans a.a,b.k.trans a.k,b.p.trans a.p,b.f.trans a.f⟩
meta abbrev G:=Option (Array Keyed)×Array Keyed×Nat×Nat×Nat×Nat×Nat
abbrev T3 (a b out:Array Keyed)(ia ib mg ac bc:Nat):StateT SortSt Sem (ForInStep G):=do
 let x <- elem' a ia
 if (ia+1+1 == a.size)=true then pure (ForInStep.done (some (out.push x++b.extract ib b.size++a.extract (ia+1) a.size),out.push x,ia+1,ib,mg,ac,bc))
 else if (decide (ac<7) && decide (bc<7))=true then pure (ForInStep.done (none,out.push x,ia+1,ib,mg,ac,bc))
 else pure (ForInStep.yield (none,out.push x,ia+1,ib,mg,ac,bc))
abbrev T2 (a b out:Array Keyed)(ia ib mg ac bc:Nat):StateT SortSt Sem (ForInStep G):=do
 let x <- elem' b ib
 if (ib+1 == b.size)=true then pure (ForInStep.done (some (out.push x++a.extract ia a.size++b.extract (ib+1) b.size),out.push x,ia,ib+1,mg,ac,bc))
 else
  let y <- elem' a ia
  let r <- kO true y b (ib+1) (b.size-(ib+1)) 0
  match r with
  | some k=>
   if k>0 then
    if (ib+1+k == b.size)=true then pure (ForInStep.done (some (out.push x++b.extract (ib+1) (ib+1+k)++a.extract ia a.size++b.extract (ib+1+k) b.size),out.push x++b.extract (ib+1) (ib+1+k),ia,ib+1+k,mg,ac,k))
    else T3 a b (out.push x++b.extract (ib+1) (ib+1+k)) ia (ib+1+k) mg ac k
   else T3 a b (out.push x) ia (ib+1) mg ac k
  | _=>pure (ForInStep.done (some (out.push x++a.extract ia a.size++b.extract (ib+1) b.size),out.push x,ia,ib+1,mg,ac,bc))
abbrev T1 (a b out:Array Keyed)(ia ib mg ac bc:Nat):StateT SortSt Sem (ForInStep G):=do
 uI mg
 let x <- elem' b ib
 let r <- kO false x a ia (a.size-ia) 0
 match r with
 | some k=>
  if k>0 then
   if (ia+k+1 == a.size)=true then pure (ForInStep.done (some (out++a.extract ia (ia+k)++b.extract ib b.size++a.extract (ia+k) a.size),out++a.extract ia (ia+k),ia+k,ib,mg,k,bc))
   else if (ia+k == a.size)=true then pure (ForInStep.done (some (out++a.extract ia (ia+k)++a.extract (ia+k) a.size++b.extract ib b.size),out++a.extract ia (ia+k),ia+k,ib,mg,k,bc))
   else T2 a b (out++a.extract ia (ia+k)) (ia+k) ib mg k bc
  else T2 a b out ia ib mg k bc
 | _=>pure (ForInStep.done (some (out++a.extract ia a.size++b.extract ib b.size),out,ia,ib,mg,ac,bc))
section
variable {prog:aj}{w:ah}{A:aA}{E:af->aC->Prop}{s:aC}{o:Ord}{N:Nat}{f:Nat->Keyed}{kd:SortKind}{st st0:SortSt}{X Y hs:ag}{ia ib:Nat}
def sj(h:Sm st0 st){Q:Unit->SortSt->Prop}(q:∀st',Sm st0 st'->Q Unit.unit st'):wpS (model prog w) A E s (uI m) Q st:=by
 rw[Mf];exact eT (q _ (h.trans ⟨rfl,rfl,rfl,rfl⟩))
abbrev On (o:Ord)(f:Nat->Keyed)(X Y:ag)(n:Nat)(hs:ag)(ia ib:Nat):Prop:=Mg o X Y hs ia ib/\ia+1<X.length/\ib<Y.length/\n<=ia+ib
abbrev G2 (o:Ord)(f:Nat->Keyed)(X Y:ag)(n:Nat)(st0:SortSt):ForInStep G->SortSt->Prop:=λr st'=>Sm st0 st'/\match r with
 | .done c=>(∃r z,c=(some r,z)/\Res o f X Y r)\/∃hs ia ib mg ac bc,c=(none,fa f hs,ia,ib,mg,ac,bc)/\On o f X Y n hs ia ib
 | .yield c=>∃hs ia ib mg ac bc,c=(none,fa f hs,ia,ib,mg,ac,bc)/\On o f X Y n hs ia ib
abbrev Top (o:Ord)(X Y:ag):Prop:=∀i x,X[i]?=some x->i+1=X.length->∀y∈Y,P o y x
def VM{α β γ κ:Type}{g:α->κ}{O:α->β->γ->Prop}{T:κ->Prop}(k:∀a b c,O a b c->T (g a)):∀q,(∃a b c,q=g a/\O a b c)->T q:=by
 rintro _ ⟨a,b,c,rfl,h⟩;exact k a b c h
def Vc{α β γ δ κ:Type}{S:Prop}{g:α->β->γ->δ->κ}{O:α->β->γ->δ->Prop}{T:κ->Prop}(k:S->∀a b c d,O a b c d->T (g a b c d)):∀q,(S/\∃a b c d,q=g a b c d/\O a b c d)->T q:=by
 rintro q ⟨s,a,b,c,d,rfl,o⟩;exact k s a b c d o
def Vu{α β γ δ ε κ:Type}{S:Prop}{g:α->β->γ->δ->ε->κ}{O:α->β->γ->δ->ε->Prop}{T:κ->Prop}(k:S->∀a b c d e,O a b c d e->T (g a b c d e)):∀q,(S/\∃a b c d e,q=g a b c d e/\O a b c d e)->T q:=by
 rintro q ⟨s,a,b,c,d,e,rfl,o⟩;exact k s a b c d e o
def Vq{α β γ δ ε ζ κ:Type}{S:Prop}{g:α->β->γ->δ->ε->ζ->κ}{O:α->β->γ->δ->ε->ζ->Prop}{T:κ->Prop}(k:S->∀a b c d e f,O a b c d e f->T (g a b c d e f)):∀q,(S/\∃a b c d e f,q=g a b c d e f/\O a b c d e f)->T q:=by
 rintro q ⟨s,a,b,c,d,e,f,rfl,o⟩;exact k s a b c d e f o
def Vw{α β γ δ ε κ ρ σ:Type}{S:Prop}{j:ρ->σ->κ}{R:ρ->Prop}{g:α->β->γ->δ->ε->κ}{O:α->β->γ->δ->ε->Prop}{T:κ->Prop}(k1:S->∀r z,R r->T (j r z))(k:S->∀a b c d e,O a b c d e->T (g a b c d e)):∀q,(S/\((∃r z,q=j r z/\R r)\/∃a b c d e,q=g a b c d e/\O a b c d e))->T q:=by
 rintro q ⟨s,⟨r,z,rfl,hr⟩|⟨a,b,c,d,e,rfl,o⟩⟩
 ·exact k1 s r z hr
 ·exact k s a b c d e o
def Vx{α β γ δ ε ζ κ ρ σ:Type}{S:Prop}{j:ρ->σ->κ}{R:ρ->Prop}{g:α->β->γ->δ->ε->ζ->κ}{O:α->β->γ->δ->ε->ζ->Prop}{T:κ->Prop}(k1:S->∀r z,R r->T (j r z))(k:S->∀a b c d e f,O a b c d e f->T (g a b c d e f)):∀q,(S/\((∃r z,q=j r z/\R r)\/∃a b c d e f,q=g a b c d e f/\O a b c d e f))->T q:=by
 rintro q ⟨s,⟨r,z,rfl,hr⟩|⟨a,b,c,d,e,f,rfl,o⟩⟩
 ·exact k1 s r z hr
 ·exact k s a b c d e f o
def sZ(ab:Ab o N X Y)(tp:Top o X Y)(m:Mg o X Y hs ia ib)(h:ia+1=X.length):Res o f X Y (fa f hs++(fa f Y).extract ib Y.length++(fa f X).extract ia X.length):=
 m.NP ab λx hx y hy=>by
  obtain⟨j,hj,ej⟩:=sf hx;have:=(aJ.mp ej).1;exact tp j x ej () y (dZ hy)
def M0(ab:Ab o N X Y)(tp:Top o X Y)(hm:Sm st0 st){n mg x:Nat}(m:Mg o X Y hs ia ib)(ha:ia+1<X.length)(hb:ib<Y.length)(hn:n<=ia+ib)(hx:X[ia]?=some x)(hy:Y[ib]?=some y)(hxy:P o x y) :
  wpS (model prog w) A E s (T3 (fa f X) (fa f Y) (fa f hs) ia ib mg ac bc) (G2 o f X Y n st0) st:=by
 unfold T3;rw[lq,lq];refine aS (jA (kR hx) ?_);have m2:=m.uJ ab hx (pH ab.sb hy hxy);rw[su];by_cases c:ia+1+1=X.length
 ·rw[aN (by rw[c];exact bN _)];exact aZ ⟨hm,.inl ⟨_,_,rfl,sZ ab tp m2 c⟩⟩
 ·rw[aM (by simpa using c)];by_cases c2:(decide (ac<7) && decide (bc<7))=true
  ·rw[aN c2];exact aZ ⟨hm,.inr ⟨_,_,_,_,_,_,rfl,m2,(),hb,()⟩⟩
  ·rw[aM c2];exact aZ ⟨hm,⟨_,_,_,_,_,_,rfl,m2,(),hb,()⟩⟩
def Nd(C:xJ prog w A s o N f kd)(hk:kindOf st=kd)(ab:Ab o N X Y)(tp:Top o X Y)(hm:Sm st0 st){n mg x:Nat}(m:Mg o X Y hs ia ib)(ha:ia+1<X.length)(hb:ib<Y.length)(hn:n<=ia+ib)(hx:X[ia]?=some x)(hy:Y[ib]?=some y)(hxy:P o y x) :
  wpS (model prog w) A E s (T2 (fa f X) (fa f Y) (fa f hs) ia ib mg ac bc) (G2 o f X Y n st0) st:=by
 unfold T2;rw[lq,lq];kln_w;have m2:=ab.ve m hy (pH ab.sa hx hxy);rw[su];by_cases c:ib+1=Y.length
 ·rw[aN (by rw[c];exact bN _)];exact aZ ⟨hm,.inl ⟨_,_,rfl,m2.fin ab λx _ y hy=>by rw[drop_nil ()]at hy;cases hy⟩⟩
 ·rw[aM (by simpa using c)];refine aS (jA (kR hx) ?_);refine aS (Hg C hk (h:=λi=>Y.getD (ib+1+i) 0) (λi hi=>kR (getD_at ())) (λi hi=>?_) (DS ab.sb _ _ ()) () λk k1 k2 k3=>?_)
  ·have:=aY (getD_at (l:=Y) (i:=ib+1+i) ());exact⟨ab.lt x (aY hx) _ this,ab.nb _ this⟩
  ·dsimp only;have m3:=m2.vY ab hx k () λi z hi ez=>by
    have:=k2 i hi;rw[aI,ez]at this;exact this
   by_cases c2:k>0
   ·rw[aN c2,uo,show ib+1+k-(ib+1)=k by lia,oi];by_cases c3:ib+1+k=Y.length
    ·rw[aN (by rw[c3];exact bN _)];exact aZ ⟨hm,.inl ⟨_,_,rfl,m3.fin ab λx _ y hy=>by rw[drop_nil ()]at hy;cases hy⟩⟩
    ·rw[aM (by simpa using c3)];exact M0 ab tp hm m3 ha () () hx (getD_at ()) (k3 k (aP _) ())
   ·rw[aM c2];have:k=0:=()
    subst this;exact M0 ab tp hm m2 ha () () hx (getD_at ()) (k3 0 (aP _) ())
def Sl(C:xJ prog w A s o N f kd)(hk:kindOf st0=kd)(ab:Ab o N X Y)(tp:Top o X Y)(hm:Sm st0 st){n mg:Nat}(m:Mg o X Y hs ia ib)(ha:ia+1<X.length)(hb:ib<Y.length)(hn:n<=ia+ib) :
  wpS (model prog w) A E s (T1 (fa f X) (fa f Y) (fa f hs) ia ib mg ac bc) (G2 o f X Y n st0) st:=by
 unfold T1;rw[lq,lq];refine aS (sj hm λst1 hm1=>?_);have hy:=getD_at (l:=Y) (i:=ib) hb;have yB:=aY hy;kln_w;refine aS (Ii C (by rw[hm1.k];exact hk) (h:=λi=>X.getD (ia+i) 0) (λi hi=>kR (getD_at ())) (λi hi=>ab.lt _ (aY (getD_at (l:=X) (i:=ia+i) ())) _ yB) (ab.nb _ yB) (DS ab.sa _ _ ()) () λk k1 k2 k3=>?_);dsimp only;have m3:=m.v9 ab hy k () λi z hi ez=>by
  have:=k2 i hi;rw[aI,ez]at this;exact this
 by_cases c2:k>0
 ·rw[aN c2,uo,show ia+k-ia=k by lia,oi];by_cases c3:ia+k+1=X.length
  ·rw[aN (by rw[c3];exact bN _)];exact aZ ⟨hm1,.inl ⟨_,_,rfl,sZ ab tp m3 c3⟩⟩
  ·rw[aM (by simpa using c3)];by_cases c4:ia+k=X.length
   ·rw[aN (by rw[c4];exact bN _)];exact aZ ⟨hm1,.inl ⟨_,_,rfl,m3.fin ab λx hx y _=>by rw[drop_nil ()]at hx;cases hx⟩⟩
   ·rw[aM (by simpa using c4)];exact Nd C (by rw[hm1.k];exact hk) ab tp hm1 m3 () hb () (getD_at ()) hy (k3 k (aP _) ())
 ·rw[aM c2];have:k=0:=()
  subst this;exact Nd C (by rw[hm1.k];exact hk) ab tp hm1 m ha hb hn (getD_at ()) hy (k3 0 (aP _) ())
def QW(C:xJ prog w A s o N f kd)(hk:kindOf st=kd)(ab:Ab o N X Y)(tp:Top o X Y)(h1:1<=X.length)(hy0:Y[0]?=some y0)(h0:∀x∈X,P o y0 x)
  {Q:Array Keyed->SortSt->Prop} (q:∀out st',Sm st st'->Res o f X Y out->Q out st'):wpS (model prog w) A E s (vQ (fa f X) (fa f Y)) Q st:=by
 rw[BA];kpf_c;dsimp only;rw[lq,lq];have hY:=(aJ.mp hy0).1;refine aS (jA (kR hy0) ?_);have m0:Mg o X Y [] 0 0:=⟨cF _,cF _,rfl,List.Pairwise.nil,(nofun),(nofun),(nofun)⟩;have m1:Mg o X Y [y0] 0 1:=ab.ve m0 hy0 h0;have e1:(#[f y0]:Array Keyed)=fa f [y0]:=rfl;rw[e1];by_cases c:1=Y.length
 ·rw[aN (by rw[<- c];rfl)];exact aZ (q _ _ Sm.refl (m1.fin ab λx _ y hy=>by rw[drop_nil ()]at hy;cases hy))
 ·rw[aM (by simpa using c)];by_cases c2:0+1=X.length
  ·rw[aN (by rw[<- c2];rfl)];exact aZ (q _ _ Sm.refl (sZ ab tp m1 c2))
  ·rw[aM (by simpa using c2)];refine aS (gf ?_);refine aS (dB (cu (I:=λx c st'=>Sm st st'/\∃hs ia ib mg,c=(none,fa f hs,ia,ib,mg)/\On o f X Y (x+1) hs ia ib)
    (Q:=λc st'=>Sm st st'/\∃r z,c=(some r,z)/\Res o f X Y r) ?step ?fin ⟨Sm.refl,_,_,_,_,rfl,m1,(),(),aP _⟩) ?post)
   case post=>
    rintro c st' ⟨hm,r,z,rfl,hr⟩;exact aZ (q _ _ hm hr)
   case fin=>
    rintro c st' ⟨hm,hs,ia,ib,mg,rfl,m,a1,a2,a3⟩;exfalso
    lia
   case step=>
    intro x c st' _ hx hh;revert hh;revert c;refine Vc λhm hs ia ib mg ho=>?_;have m:=ho.1;have a1:=ho.2.1;have a2:=ho.2.2.1;have a3:=ho.2.2.2;clear ho;dsimp only;refine aS (dB (cu (I:=λx' c st''=>Sm st st''/\∃hs ia ib ac bc,c=(none,fa f hs,ia,ib,ac,bc)/\On o f X Y (x+1+min x' 1) hs ia ib)
     (Q:=λc st''=>Sm st st''/\((∃r z,c=(some r,z)/\Res o f X Y r)\/∃hs ia ib ac bc,c=(none,fa f hs,ia,ib,ac,bc)/\On o f X Y (x+1+1) hs ia ib)) ?istep ?ifin ⟨hm,_,_,_,_,_,rfl,m,a1,a2,a3⟩) ?ipost)
    case ifin=>
     rintro c st'' ⟨hm',hs,ia,ib,ac,bc,rfl,m,a1,a2,a3⟩;exact⟨hm',.inr ⟨_,_,_,_,_,rfl,m,a1,a2,()⟩⟩
    case istep=>
     intro x' c st'' _ hx' hh;revert hh;revert c;refine Vu λhm' hs ia ib ac bc ho=>?_;have m:=ho.1;have a1:=ho.2.1;have a2:=ho.2.2.1;have a3:=ho.2.2.2;clear ho;dsimp only;have hy:=getD_at (l:=Y) (i:=ib) a2;have hxx:=getD_at (l:=X) (i:=ia) ();have yB:=aY hy;have xA:=aY hxx;have lt:=ab.lt _ xA _ yB;kln_w;refine aS (jA (kR hxx) ?_);refine aS (wc C (by rw[hm'.k];exact hk) (ab.nb _ yB) (ab.na _ xA) ?_)
     cases hl:o.lt (Y.getD ib 0) (X.getD ia 0)
     ·dsimp[bF,cE];refine aS (jA (kR hxx) ?_);have m2:=m.uJ ab hxx (pH ab.sb hy (P.uM hl lt));rw[su];by_cases c3:ia+1+1=X.length
      ·rw[aN (by rw[c3];exact bN _)];exact aZ ⟨hm',.inl ⟨_,_,rfl,sZ ab tp m2 c3⟩⟩
      ·rw[aM (by simpa using c3)];by_cases c4:ac+1>=mg
       ·rw[aN c4];exact aZ ⟨hm',.inr ⟨_,_,_,_,_,rfl,m2,(),a2,()⟩⟩
       ·rw[aM c4];exact aZ ⟨hm',_,_,_,_,_,rfl,m2,(),a2,()⟩
     ·dsimp[cN];kln_w;have m2:=ab.ve m hy (pH ab.sa hxx (P.of_lt hl));rw[su];by_cases c3:ib+1=Y.length
      ·rw[aN (by rw[c3];exact bN _)];exact aZ ⟨hm',.inl ⟨_,_,rfl,m2.fin ab λx _ y hy=>by rw[drop_nil ()]at hy;cases hy⟩⟩
      ·rw[aM (by simpa using c3)];by_cases c4:bc+1>=mg
       ·rw[aN c4];exact aZ ⟨hm',.inr ⟨_,_,_,_,_,rfl,m2,a1,(),()⟩⟩
       ·rw[aM c4];exact aZ ⟨hm',_,_,_,_,_,rfl,m2,a1,(),()⟩
    case ipost=>
     intro c st'' hh;revert hh;revert c;refine Vw (λhm' r z hr=>?_) λhm' hs ia ib ac bc ho=>?_
     ·dsimp only;exact aZ ⟨hm',r,_,rfl,hr⟩
     ·have m:=ho.1;have a1:=ho.2.1;have a2:=ho.2.2.1;have a3:=ho.2.2.2;clear ho;dsimp only;kpf_c;refine aS (dB (cu (I:=λx' c st''=>Sm st st''/\∃hs ia ib mg ac bc,c=(none,fa f hs,ia,ib,mg,ac,bc)/\On o f X Y (x+1+1) hs ia ib)
       (Q:=λc st''=>Sm st st''/\((∃r z,c=(some r,z)/\Res o f X Y r)\/∃hs ia ib mg ac bc,c=(none,fa f hs,ia,ib,mg,ac,bc)/\On o f X Y (x+1+1) hs ia ib)) ?jstep ?jfin ⟨hm',_,_,_,_,_,_,rfl,m,a1,a2,a3⟩) ?jpost)
      case jfin=>
       rintro c st3 ⟨hm3,hh⟩;exact⟨hm3,.inr hh⟩
      case jstep=>
       intro x' c st3 _ hx' hh;revert hh;revert c;refine Vq λhm3 hs ia ib mg ac bc ho=>?_;have m:=ho.1;have a1:=ho.2.1;have a2:=ho.2.2.1;have a3:=ho.2.2.2;clear ho;dsimp only;have t1:=λmg=>Sl (n:=x+1+1) (mg:=mg) (ac:=ac) (bc:=bc) (E:=E) C hk ab tp hm3 m a1 a2 a3;unfold T1 T2 T3 at t1;rw[lq,lq]at t1;refine dB (Q:=G2 o f X Y (x+1+1) st) ?_ ?_
       ·by_cases c3:mg>1
        ·rw[aN c3];exact t1 (mg-1)
        ·rw[aM c3];exact t1 mg
       ·rintro r st4 ⟨hm4,hr⟩
        cases r with
        | done c=>exact⟨hm4,hr⟩
        | yield c=>exact⟨hm4,hr⟩
      case jpost=>
       intro c st3 hh;revert hh;revert c;refine Vx (λhm3 r z hr=>?_) λhm3 hs ia ib mg ac bc ho=>?_
       ·dsimp only;exact aZ ⟨hm3,r,_,rfl,hr⟩
       ·have m:=ho.1;have a1:=ho.2.1;have a2:=ho.2.2.1;have a3:=ho.2.2.2;clear ho;dsimp only;refine aS (sj hm3 λst4 hm4=>?_);exact aZ ⟨hm4,_,_,_,_,rfl,m,a1,a2,a3⟩
end
def B7(a b:Array Keyed):w_ a b=(do
 rule "list.sort.merge-hi"
 let all_:=a.size+b.size
 let end1 (acc:Array Keyed) (p q:Nat):=a.extract 0 p++b.extract 0 q++acc.reverse
 let end2 (acc:Array Keyed) (p q:Nat):=b.extract 0 q++a.extract 0 p++acc.reverse
 let mut p:=a.size-1
 let mut q:=b.size
 let mut acc:Array Keyed:=#[<- elem' a p]
 if p == 0 then return end1 acc p q
 if q == 1 then return end2 acc p q
 let mut mg:=gallopOf (<- get)
 for _ in [0:all_] do
  let mut ca:=0
  let mut cb:=0
  for _ in [0:all_] do
   let some won <- lt' (<- elem' b (q-1)) (<- elem' a (p-1))|return end1 acc p q
   if won then
    p:=p-1;acc:=acc.push (<- elem' a p);ca:=ca+1;cb:=0
    if p == 0 then return end1 acc p q
    if ca>=mg then break
   else
    q:=q-1;acc:=acc.push (<- elem' b q);cb:=cb+1;ca:=0
    if q == 1 then return end2 acc p q
    if cb>=mg then break
  rule "list.sort.gallop"
  mg:=mg+1
  for _ in [0:all_] do
   if mg>1 then mg:=mg-1
   uI mg
   let some t <- kO false (<- elem' b (q-1)) a 0 p (p-1)|return end1 acc p q
   let k:=p-t
   ca:=k
   if k>0 then
    acc:=acc++(a.extract t p).reverse;p:=t
    if p == 0 then return end1 acc p q
   q:=q-1;acc:=acc.push (<- elem' b q)
   if q == 1 then return end2 acc p q
   let some t <- kO true (<- elem' a (p-1)) b 0 q (q-1)|return end1 acc p q
   let k:=q-t
   cb:=k
   if k>0 then
    acc:=acc++(b.extract t q).reverse;q:=t
    if q == 1 then return end2 acc p q
    if q == 0 then return end1 acc p q
   p:=p-1;acc:=acc.push (<- elem' a p)
   if p == 0 then return end1 acc p q
   if ca<7 && cb<7 then break
  mg:=mg+1
  uI mg
 unsupported "internal:list.sort.merge-bound"):=rfl
section
variable {o:Ord}{N:Nat}{f:Nat->Keyed}{A B ts:ag}{na nb:Nat}
def GY(l:ag):(fa f l).reverse=fa f l.reverse:=by
 unfold fa;rw[List.reverse_toArray,gE]
def vc(l:ag)(i:Nat):(fa f l).extract 0 i=fa f (l.take i):=by
 rw[uo,iV,Nat.sub_zero]
structure Mh (o:Ord)(A B ts:ag)(na nb:Nat):Prop where
 la:na<=A.length
 lb:nb<=B.length
 len:ts.length+na+nb=A.length+B.length
 so:ts.Pairwise (P o)
 mem:∀x∈ts,x∈A\/x∈B
 ua:∀y∈A.take na,∀x∈ts,P o y x
 ub:∀y∈B.take nb,∀x∈ts,P o y x
def tB{l:ag}{y:Nat}(h:y∈l.take i):∃j,j<i/\l[j]?=some y:=by
 obtain⟨k,hk⟩:=dY h;have:=(aJ.mp hk).1;rw[bw]at this;rw[cY ()]at hk;exact⟨k,(),hk⟩
def take_one{l:ag}{i x:Nat}(h:l[i]?=some x):l.take (i+1)=l.take i++[x]:=by
 obtain⟨h1,e1⟩:=aJ.mp h;rw[c7 h1,e1]
def Mh.uJ(ab:Ab o N A B)(m:Mh o A B ts (na+1) nb){x:Nat}(hx:A[na]?=some x)(h:∀y∈B.take nb,P o y x):Mh o A B (x::ts) na nb:=by
 have la:=m.la;have len:=m.len;have ht:=take_one hx;have xin:x∈A.take (na+1):=by rw[ht];exact aX _ (bB.mpr rfl)
 refine⟨(),m.lb,by rw[bI];lia,cg.mpr ⟨λy hy=>m.ua x xin y hy,m.so⟩,λz hz=>?_,λy hy z hz=>?_,λy hy z hz=>?_⟩
 ·rcases bJ.mp hz with rfl|z'
  ·exact .inl (aY hx)
  ·exact m.mem z z'
 ·rcases bJ.mp hz with rfl|z'
  ·obtain⟨j,hj,ej⟩:=tB hy;exact qC ab.sa ej hx hj
  ·exact m.ua y (by rw[ht];exact bP _ hy) z z'
 ·rcases bJ.mp hz with rfl|z'
  ·exact h y hy
  ·exact m.ub y hy z z'
def Mh.HJ(ab:Ab o N A B)(m:Mh o A B ts na (nb+1)){x:Nat}(hx:B[nb]?=some x)(h:∀y∈A.take na,P o y x):Mh o A B (x::ts) na nb:=by
 have lb:=m.lb;have len:=m.len;have ht:=take_one hx;have xin:x∈B.take (nb+1):=by rw[ht];exact aX _ (bB.mpr rfl)
 refine⟨m.la,(),by rw[bI];lia,cg.mpr ⟨λy hy=>m.ub x xin y hy,m.so⟩,λz hz=>?_,λy hy z hz=>?_,λy hy z hz=>?_⟩
 ·rcases bJ.mp hz with rfl|z'
  ·exact .inr (aY hx)
  ·exact m.mem z z'
 ·rcases bJ.mp hz with rfl|z'
  ·exact h y hy
  ·exact m.ua y hy z z'
 ·rcases bJ.mp hz with rfl|z'
  ·obtain⟨j,hj,ej⟩:=tB hy;exact qC ab.sb ej hx hj
  ·exact m.ub y (by rw[ht];exact bP _ hy) z z'
def pL{l:ag}(h:l.Pairwise (P o)){i x:Nat}(hx:l[i]?=some x)(hxy:P o x y):∀z∈l.take (i+1),P o z y:=λz hz=>by
 obtain⟨j,hj,ej⟩:=tB hz;by_cases c:j=i
 ·subst c;rw[hx]at ej;cases ej;exact hxy
 ·exact(qC h ej hx ()).trans hxy
theorem Mh.v9(ab:Ab o N A B){mb:Nat}(hy:B[mb]?=some y):∀(k:Nat) {ts:ag}{at_:Nat},Mh o A B ts (at_+k) (mb+1)->(∀i x,at_<=i->i<at_+k->A[i]?=some x->P o y x)->Mh o A B ((A.drop at_).take k++ts) at_ (mb+1)
 | 0,ts,at_,m,_=>by rw[fj];exact m
 | k+1,ts,at_,m,h=>by
  have la:=m.la;have hx:A[at_+k]?=some (A[at_+k]'()):=aG _;have m2:=Mh.uJ ab (show Mh o A B ts (at_+k+1) (mb+1)from m) hx (pL ab.sb hy (h _ _ () () hx));have m3:=Mh.v9 ab hy k m2 λi x h1 h2=>h i x h1 ();rw[take_snoc hx,bH];exact m3
theorem Mh.vY(ab:Ab o N A B){ma:Nat}(hy:A[ma]?=some y):∀(k:Nat) {ts:ag}{at_:Nat},Mh o A B ts (ma+1) (at_+k)->(∀i x,at_<=i->i<at_+k->B[i]?=some x->P o y x)->Mh o A B ((B.drop at_).take k++ts) (ma+1) at_
 | 0,ts,at_,m,_=>by rw[fj];exact m
 | k+1,ts,at_,m,h=>by
  have lb:=m.lb;have hx:B[at_+k]?=some (B[at_+k]'()):=aG _;have m2:=Mh.HJ ab (show Mh o A B ts (ma+1) (at_+k+1)from m) hx (pL ab.sa hy (h _ _ () () hx));have m3:=Mh.vY ab hy k m2 λi x h1 h2=>h i x h1 ();rw[take_snoc hx,bH];exact m3
def u0{l:ag}(h:l.Pairwise (P o))(i:Nat):(l.take i).Pairwise (P o):=h.sublist (List.take_sublist ..)
def Mh.fin(ab:Ab o N A B)(m:Mh o A B ts na nb)(h:∀x∈A.take na,∀y∈B.take nb,P o x y):Res o f A B ((fa f A).extract 0 na++(fa f B).extract 0 nb++fa f ts):=by
 rw[vc,vc,oi,oi];have la:=m.la;have lb:=m.lb;have len:=m.len;refine⟨_,rfl,by rw[aU,aU,bw,bw];lia,?_,λx hx=>?_⟩
 ·rw[bZ,bZ];refine⟨⟨u0 ab.sa _,u0 ab.sb _,h⟩,m.so,λx hx y hy=>?_⟩
  rcases bh.mp hx with z|z
  ·exact m.ua x z y hy
  ·exact m.ub x z y hy
 ·rcases bh.mp hx with z|z
  ·rcases bh.mp z with z|z
   ·exact .inl (bK z)
   ·exact .inr (bK z)
  ·exact m.mem x z
def Mh.NP(ab:Ab o N A B)(m:Mh o A B ts na nb)(h:∀x∈A.take na,∀y∈B.take nb,P o y x):Res o f A B ((fa f B).extract 0 nb++(fa f A).extract 0 na++fa f ts):=by
 rw[vc,vc,oi,oi];have la:=m.la;have lb:=m.lb;have len:=m.len;refine⟨_,rfl,by rw[aU,aU,bw,bw];lia,?_,λx hx=>?_⟩
 ·rw[bZ,bZ];refine⟨⟨u0 ab.sb _,u0 ab.sa _,λx hx y hy=>h y hy x hx⟩,m.so,λx hx y hy=>?_⟩
  rcases bh.mp hx with z|z
  ·exact m.ub x z y hy
  ·exact m.ua x z y hy
 ·rcases bh.mp hx with z|z
  ·rcases bh.mp z with z|z
   ·exact .inr (bK z)
   ·exact .inl (bK z)
  ·exact m.mem x z
abbrev SN (o:Ord)(X Y:ag):Prop:=∀y,Y[0]?=some y->∀x∈X,P o y x
def qY(ab:Ab o N A B)(bt:SN o A B)(m:Mh o A B ts na nb)(h:nb=1):Res o f A B ((fa f B).extract 0 nb++(fa f A).extract 0 na++fa f ts):=
 m.NP ab λx hx y hy=>by
  obtain⟨j,hj,ej⟩:=tB hy;have:j=0:=()
  subst this;exact bt y ej x (bK hx)
def Mh.A2(ab:Ab o N A B)(m:Mh o A B ts na nb)(h:na=0\/nb=0):Res o f A B ((fa f A).extract 0 na++(fa f B).extract 0 nb++fa f ts):=
 m.fin ab λx hx y hy=>by
  rcases h with rfl|rfl
  ·rw[fj]at hx;cases hx
  ·rw[fj]at hy;cases hy
def uW(l:ag)(x:Nat):(fa f l.reverse).push (f x)=fa f (x::l).reverse:=by rw[su,dW]
def IU(l m:ag):fa f l.reverse++(fa f m).reverse=fa f (m++l).reverse:=by rw[GY,oi,gZ]
def rE(l:ag):(fa f l.reverse).reverse=fa f l:=by rw[GY,List.reverse_reverse]
end
meta abbrev H:=Option (Array Keyed)×Nat×Nat×Array Keyed×Nat×Nat×Nat
abbrev U3 (a b out:Array Keyed)(na nb mg ac bc:Nat):StateT SortSt Sem (ForInStep H):=do
 let x <- elem' a (na-1)
 if (na-1 == 0)=true then pure (ForInStep.done (some (a.extract 0 (na-1)++b.extract 0 nb++(out.push x).reverse),na-1,nb,out.push x,mg,ac,bc))
 else if (decide (ac<7) && decide (bc<7))=true then pure (ForInStep.done (none,na-1,nb,out.push x,mg,ac,bc))
 else pure (ForInStep.yield (none,na-1,nb,out.push x,mg,ac,bc))
abbrev U2 (a b out:Array Keyed)(na nb mg ac bc:Nat):StateT SortSt Sem (ForInStep H):=do
 let x <- elem' b (nb-1)
 if (nb-1 == 1)=true then pure (ForInStep.done (some (b.extract 0 (nb-1)++a.extract 0 na++(out.push x).reverse),na,nb-1,out.push x,mg,ac,bc))
 else
  let y <- elem' a (na-1)
  let r <- kO true y b 0 (nb-1) (nb-1-1)
  match r with
  | some t=>
   if nb-1-t>0 then
    if (t == 1)=true then pure (ForInStep.done (some (b.extract 0 t++a.extract 0 na++(out.push x++(b.extract t (nb-1)).reverse).reverse),na,t,out.push x++(b.extract t (nb-1)).reverse,mg,ac,nb-1-t))
    else if (t == 0)=true then pure (ForInStep.done (some (a.extract 0 na++b.extract 0 t++(out.push x++(b.extract t (nb-1)).reverse).reverse),na,t,out.push x++(b.extract t (nb-1)).reverse,mg,ac,nb-1-t))
    else U3 a b (out.push x++(b.extract t (nb-1)).reverse) na t mg ac (nb-1-t)
   else U3 a b (out.push x) na (nb-1) mg ac (nb-1-t)
  | _=>pure (ForInStep.done (some (a.extract 0 na++b.extract 0 (nb-1)++(out.push x).reverse),na,nb-1,out.push x,mg,ac,bc))
abbrev U1 (a b out:Array Keyed)(na nb mg ac bc:Nat):StateT SortSt Sem (ForInStep H):=do
 uI mg
 let x <- elem' b (nb-1)
 let r <- kO false x a 0 na (na-1)
 match r with
 | some t=>
  if na-t>0 then
   if (t == 0)=true then pure (ForInStep.done (some (a.extract 0 t++b.extract 0 nb++(out++(a.extract t na).reverse).reverse),t,nb,out++(a.extract t na).reverse,mg,na-t,bc))
   else U2 a b (out++(a.extract t na).reverse) t nb mg (na-t) bc
  else U2 a b out na nb mg (na-t) bc
 | _=>pure (ForInStep.done (some (a.extract 0 na++b.extract 0 nb++out.reverse),na,nb,out,mg,ac,bc))
section
variable {prog:aj}{w:ah}{A:aA}{E:af->aC->Prop}{s:aC}{o:Ord}{N:Nat}{f:Nat->Keyed}{kd:SortKind}{st st0:SortSt}{X Y ts:ag}{na nb:Nat}
abbrev Oh (o:Ord)(X Y:ag)(n:Nat)(ts:ag)(na nb:Nat):Prop:=Mh o X Y ts na nb/\1<=na/\2<=nb/\na+nb+n<=X.length+Y.length
abbrev H2 (o:Ord)(f:Nat->Keyed)(X Y:ag)(n:Nat)(st0:SortSt):ForInStep H->SortSt->Prop:=λr st'=>Sm st0 st'/\match r with
 | .done c=>(∃r z,c=(some r,z)/\Res o f X Y r)\/∃ts na nb mg ac bc,c=(none,na,nb,fa f ts.reverse,mg,ac,bc)/\Oh o X Y n ts na nb
 | .yield c=>∃ts na nb mg ac bc,c=(none,na,nb,fa f ts.reverse,mg,ac,bc)/\Oh o X Y n ts na nb
def Nc(ab:Ab o N X Y)(hm:Sm st0 st){n mg x:Nat}(m:Mh o X Y ts (na+1) (nb+1))(hb:1<=nb)(hn:na+1+(nb+1)+n<=X.length+Y.length)(hx:X[na]?=some x)(hy:Y[nb]?=some y)(hxy:P o y x) :
  wpS (model prog w) A E s (U3 (fa f X) (fa f Y) (fa f ts.reverse) (na+1) (nb+1) mg ac bc) (H2 o f X Y n st0) st:=by
 unfold U3;rw[show na+1-1=na by lia];refine aS (jA (kR hx) ?_);have m2:=m.uJ ab hx (pL ab.sb hy hxy);rw[uW,rE];by_cases c:na=0
 ·rw[aN (by rw[c];rfl)];exact aZ ⟨hm,.inl ⟨_,_,rfl,m2.A2 ab (.inl c)⟩⟩
 ·rw[aM (by simpa using c)];by_cases c2:(decide (ac<7) && decide (bc<7))=true
  ·rw[aN c2];exact aZ ⟨hm,.inr ⟨_,_,_,_,_,_,rfl,m2,(),(),()⟩⟩
  ·rw[aM c2];exact aZ ⟨hm,⟨_,_,_,_,_,_,rfl,m2,(),(),()⟩⟩
def Nl(C:xJ prog w A s o N f kd)(hk:kindOf st=kd)(ab:Ab o N X Y)(bt:SN o X Y)(hm:Sm st0 st){n mg x:Nat}(m:Mh o X Y ts (na+1) (nb+1))(hb:1<=nb)(hn:na+1+(nb+1)+n<=X.length+Y.length)(hx:X[na]?=some x)(hy:Y[nb]?=some y)(hxy:P o x y) :
  wpS (model prog w) A E s (U2 (fa f X) (fa f Y) (fa f ts.reverse) (na+1) (nb+1) mg ac bc) (H2 o f X Y n st0) st:=by
 unfold U2;rw[show nb+1-1=nb by lia,show na+1-1=na by lia];kln_w;have m2:=m.HJ ab hy (pL ab.sa hx hxy);have lb:=m.lb;rw[uW,rE];by_cases c:nb=1
 ·rw[aN (by rw[c];rfl)];exact aZ ⟨hm,.inl ⟨_,_,rfl,qY ab bt m2 c⟩⟩
 ·rw[aM (by simpa using c)];refine aS (jA (kR hx) ?_);refine aS (Hg C hk (h:=λi=>Y.getD (0+i) 0) (λi hi=>kR (getD_at ())) (λi hi=>?_) (DS ab.sb _ _ ()) () λt t1 t2 t3=>?_)
  ·have:=aY (getD_at (l:=Y) (i:=0+i) ());exact⟨ab.lt x (aY hx) _ this,ab.nb _ this⟩
  ·dsimp only;have m3:=Mh.vY ab hx (nb-t) (at_:=t) (by rw[show t+(nb-t)=nb by lia];exact m2) λi z hi1 hi2 ez=>by
    have:=t3 i hi1 ();rw[dF,aI (l:=Y),ez]at this;exact this
   by_cases c2:nb-t>0
   ·rw[aN c2,uo Y t nb,IU,rE];by_cases c3:t=1
    ·rw[aN (by rw[c3];rfl)];exact aZ ⟨hm,.inl ⟨_,_,rfl,qY ab bt m3 c3⟩⟩
    ·rw[aM (by simpa using c3)];by_cases c4:t=0
     ·rw[aN (by rw[c4];rfl)];exact aZ ⟨hm,.inl ⟨_,_,rfl,m3.A2 ab (.inr c4)⟩⟩
     ·rw[aM (by simpa using c4)];obtain⟨u,rfl⟩:∃u,t=u+1:=⟨t-1,()⟩;have:=t2 u ();rw[dF]at this;exact Nc ab hm m3 () () hx (getD_at ()) this
   ·rw[aM c2];have:t=nb:=()
    subst this;obtain⟨u,rfl⟩:∃u,t=u+1:=⟨t-1,()⟩;have:=t2 u ();rw[dF]at this;exact Nc ab hm m2 () () hx (getD_at ()) this
def Se(C:xJ prog w A s o N f kd)(hk:kindOf st0=kd)(ab:Ab o N X Y)(bt:SN o X Y)(hm:Sm st0 st){n mg:Nat}(m:Mh o X Y ts (na+1) (nb+1))(hb:1<=nb)(hn:na+1+(nb+1)+n<=X.length+Y.length) :
  wpS (model prog w) A E s (U1 (fa f X) (fa f Y) (fa f ts.reverse) (na+1) (nb+1) mg ac bc) (H2 o f X Y n st0) st:=by
 unfold U1;refine aS (sj hm λst1 hm1=>?_);have lb:=m.lb;have la:=m.la;rw[show nb+1-1=nb by lia,show na+1-1=na by lia];have hy:=getD_at (l:=Y) (i:=nb) ();have yB:=aY hy;kln_w;refine aS (Ii C (by rw[hm1.k];exact hk) (h:=λi=>X.getD (0+i) 0) (λi hi=>kR (getD_at ())) (λi hi=>ab.lt _ (aY (getD_at (l:=X) (i:=0+i) ())) _ yB) (ab.nb _ yB) (DS ab.sa _ _ ()) () λt t1 t2 t3=>?_);dsimp only;have m3:=Mh.v9 ab hy (na+1-t) (at_:=t) (by rw[show t+(na+1-t)=na+1 by lia];exact m) λi z hi1 hi2 ez=>by
  have:=t3 i hi1 ();rw[dF,aI (l:=X),ez]at this;exact this
 by_cases c2:na+1-t>0
 ·rw[aN c2,uo X t (na+1),IU,rE];by_cases c4:t=0
  ·rw[aN (by rw[c4];rfl)];exact aZ ⟨hm1,.inl ⟨_,_,rfl,m3.A2 ab (.inl c4)⟩⟩
  ·rw[aM (by simpa using c4)];obtain⟨u,rfl⟩:∃u,t=u+1:=⟨t-1,()⟩;have:=t2 u ();rw[dF]at this;exact Nl C (by rw[hm1.k];exact hk) ab bt hm1 m3 hb () (getD_at ()) hy this
 ·rw[aM c2];have:t=na+1:=()
  subst this;have:=t2 na ();rw[dF]at this;exact Nl C (by rw[hm1.k];exact hk) ab bt hm1 m hb hn (getD_at ()) hy this
def Rg(C:xJ prog w A s o N f kd)(hk:kindOf st=kd)(ab:Ab o N X Y)(tp:Top o X Y)(bt:SN o X Y)(h1:1<=X.length)(h2:1<=Y.length)
  {Q:Array Keyed->SortSt->Prop} (q:∀out st',Sm st st'->Res o f X Y out->Q out st'):wpS (model prog w) A E s (w_ (fa f X) (fa f Y)) Q st:=by
 rw[B7];kpf_c;dsimp only;rw[lq,lq];have hx0:=getD_at (l:=X) (i:=X.length-1) ();refine aS (jA (kR hx0) ?_);have m0:Mh o X Y [] (X.length-1+1) Y.length:=⟨(),aP _,by rw[eV];lia,List.Pairwise.nil,(nofun),(λ_ _ _ h=>nomatch h),(λ_ _ _ h=>nomatch h)⟩;have m1:=m0.uJ ab hx0 λy hy=>tp _ _ hx0 () y (bK hy);obtain⟨x0,ex0⟩:∃x0,x0=X.getD (X.length-1) 0:=⟨_,rfl⟩;rw[<- ex0]at m1 ⊢;have e1:(#[f x0]:Array Keyed)=fa f [x0].reverse:=rfl;rw[e1,rE];by_cases c:X.length-1=0
 ·rw[aN (by rw[c];rfl)];exact aZ (q _ _ Sm.refl (m1.A2 ab (.inl c)))
 ·rw[aM (by simpa using c)];by_cases c2:Y.length=1
  ·rw[aN (by rw[c2];rfl)];exact aZ (q _ _ Sm.refl (qY ab bt m1 c2))
  ·rw[aM (by simpa using c2)];refine aS (gf ?_);refine aS (dB (cu (I:=λx c st'=>Sm st st'/\∃ts na nb mg,c=(none,na,nb,fa f ts.reverse,mg)/\Oh o X Y (x+1) ts na nb)
    (Q:=λc st'=>Sm st st'/\∃r z,c=(some r,z)/\Res o f X Y r) ?step ?fin ⟨Sm.refl,_,_,_,_,rfl,m1,(),(),()⟩) ?post)
   case post=>
    rintro c st' ⟨hm,r,z,rfl,hr⟩;exact aZ (q _ _ hm hr)
   case fin=>
    rintro c st' ⟨hm,ts,na,nb,mg,rfl,m,a1,a2,a3⟩;exfalso
    lia
   case step=>
    intro x c st' _ hx hh;revert hh;revert c;refine Vc λhm ts na nb mg ho=>?_;have m:=ho.1;have a1:=ho.2.1;have a2:=ho.2.2.1;have a3:=ho.2.2.2;clear ho;dsimp only;refine aS (dB (cu (I:=λx' c st''=>Sm st st''/\∃ts na nb ac bc,c=(none,na,nb,fa f ts.reverse,ac,bc)/\Oh o X Y (x+1+min x' 1) ts na nb)
     (Q:=λc st''=>Sm st st''/\((∃r z,c=(some r,z)/\Res o f X Y r)\/∃ts na nb ac bc,c=(none,na,nb,fa f ts.reverse,ac,bc)/\Oh o X Y (x+1+1) ts na nb)) ?istep ?ifin ⟨hm,_,_,_,_,_,rfl,m,a1,a2,a3⟩) ?ipost)
    case ifin=>
     rintro c st'' ⟨hm',ts,na,nb,ac,bc,rfl,m,a1,a2,a3⟩;exact⟨hm',.inr ⟨_,_,_,_,_,rfl,m,a1,a2,()⟩⟩
    case istep=>
     intro x' c st'' _ hx' hh;revert hh;revert c;refine Vu λhm' ts na nb ac bc ho=>?_;have m:=ho.1;have a1:=ho.2.1;have a2:=ho.2.2.1;have a3:=ho.2.2.2;clear ho;dsimp only;obtain⟨u,rfl⟩:∃u,na=u+1:=⟨na-1,()⟩;obtain⟨v,rfl⟩:∃v,nb=v+1:=⟨nb-1,()⟩;have la:=m.la;have lb:=m.lb;rw[show u+1-1=u by lia,show v+1-1=v by lia];have hy:=getD_at (l:=Y) (i:=v) ();have hxx:=getD_at (l:=X) (i:=u) ();have yB:=aY hy;have xA:=aY hxx;have lt:=ab.lt _ xA _ yB;kln_w;refine aS (jA (kR hxx) ?_);refine aS (wc C (by rw[hm'.k];exact hk) (ab.nb _ yB) (ab.na _ xA) ?_)
     cases hl:o.lt (Y.getD v 0) (X.getD u 0)
     ·dsimp[bF,cE];kln_w;have m2:=m.HJ ab hy (pL ab.sa hxx (P.uM hl lt));rw[uW,rE];by_cases c3:v=1
      ·rw[aN (by rw[c3];rfl)];exact aZ ⟨hm',.inl ⟨_,_,rfl,qY ab bt m2 c3⟩⟩
      ·rw[aM (by simpa using c3)];by_cases c4:bc+1>=mg
       ·rw[aN c4];exact aZ ⟨hm',.inr ⟨_,_,_,_,_,rfl,m2,a1,(),()⟩⟩
       ·rw[aM c4];exact aZ ⟨hm',_,_,_,_,_,rfl,m2,a1,(),()⟩
     ·dsimp[cN];refine aS (jA (kR hxx) ?_);have m2:=m.uJ ab hxx (pL ab.sb hy (P.of_lt hl));rw[uW,rE];by_cases c3:u=0
      ·rw[aN (by rw[c3];rfl)];exact aZ ⟨hm',.inl ⟨_,_,rfl,m2.A2 ab (.inl c3)⟩⟩
      ·rw[aM (by simpa using c3)];by_cases c4:ac+1>=mg
       ·rw[aN c4];exact aZ ⟨hm',.inr ⟨_,_,_,_,_,rfl,m2,(),a2,()⟩⟩
       ·rw[aM c4];exact aZ ⟨hm',_,_,_,_,_,rfl,m2,(),a2,()⟩
    case ipost=>
     intro c st'' hh;revert hh;revert c;refine Vw (λhm' r z hr=>?_) λhm' ts na nb ac bc ho=>?_
     ·dsimp only;exact aZ ⟨hm',r,_,rfl,hr⟩
     ·have m:=ho.1;have a1:=ho.2.1;have a2:=ho.2.2.1;have a3:=ho.2.2.2;clear ho;dsimp only;kpf_c;refine aS (dB (cu (I:=λx' c st''=>Sm st st''/\∃ts na nb mg ac bc,c=(none,na,nb,fa f ts.reverse,mg,ac,bc)/\Oh o X Y (x+1+1) ts na nb)
       (Q:=λc st''=>Sm st st''/\((∃r z,c=(some r,z)/\Res o f X Y r)\/∃ts na nb mg ac bc,c=(none,na,nb,fa f ts.reverse,mg,ac,bc)/\Oh o X Y (x+1+1) ts na nb)) ?jstep ?jfin ⟨hm',_,_,_,_,_,_,rfl,m,a1,a2,a3⟩) ?jpost)
      case jfin=>
       rintro c st3 ⟨hm3,hh⟩;exact⟨hm3,.inr hh⟩
      case jstep=>
       intro x' c st3 _ hx' hh;revert hh;revert c;refine Vq λhm3 ts na nb mg ac bc ho=>?_;have m:=ho.1;have a1:=ho.2.1;have a2:=ho.2.2.1;have a3:=ho.2.2.2;clear ho;dsimp only;obtain⟨u,rfl⟩:∃u,na=u+1:=⟨na-1,()⟩;obtain⟨v,rfl⟩:∃v,nb=v+1:=⟨nb-1,()⟩;have t1:=λmg=>Se (n:=x+1+1) (mg:=mg) (ac:=ac) (bc:=bc) (E:=E) C hk ab bt hm3 m () a3;unfold U1 U2 U3 at t1;refine dB (Q:=H2 o f X Y (x+1+1) st) ?_ ?_
       ·by_cases c3:mg>1
        ·rw[aN c3];exact t1 (mg-1)
        ·rw[aM c3];exact t1 mg
       ·rintro r st4 ⟨hm4,hr⟩
        cases r with
        | done c=>exact⟨hm4,hr⟩
        | yield c=>exact⟨hm4,hr⟩
      case jpost=>
       intro c st3 hh;revert hh;revert c;refine Vx (λhm3 r z hr=>?_) λhm3 ts na nb mg ac bc ho=>?_
       ·dsimp only;exact aZ ⟨hm3,r,_,rfl,hr⟩
       ·have m:=ho.1;have a1:=ho.2.1;have a2:=ho.2.2.1;have a3:=ho.2.2.2;clear ho;dsimp only;refine aS (sj hm3 λst4 hm4=>?_);exact aZ ⟨hm4,_,_,_,_,rfl,m,a1,a2,a3⟩
end
def Ce(i:Nat):mergeAt' i=(do
 let s <- get
 let(some (a1,n1,pw),some (a2,n2,_)):=((pendingOf s)[i]?,(pendingOf s)[i+1]?)|unsupported "internal:list.sort.pending"
 set (setPending s (((pendingOf s).setIfInBounds i (a1,n1+n2,pw)).eraseIdxIfInBounds (i+1)))
 let some k <- kO false (<- elem' (arrOf s) a2) (arrOf s) a1 n1 0|return false
 let(a1,n1):=(a1+k,n1-k)
 if n1 == 0 then return true
 let some n2 <- kO true (<- elem' (arrOf s) (a1+n1-1)) (arrOf s) a2 n2 (n2-1)|return false
 if n2 == 0 then return true
 let x:=(arrOf s).extract a1 a2
 let y:=(arrOf s).extract a2 (a2+n2)
 let both <- if n1<=n2 then vQ x y else w_ x y
 modify λs=>setArr s (both.toList.zipIdx.foldl (λa (p,j)=>a.setIfInBounds (a1+j) p) (arrOf s))
 return (failedOf (<- get)).isNone):=rfl
abbrev seg (g:Nat->Nat)(a n:Nat):ag:=(List.range n).map λi=>g (a+i)
section
variable {o:Ord}{N:Nat}{f:Nat->Keyed}{g:Nat->Nat}
def m7(g:Nat->Nat)(a n:Nat):(seg g a n).length=n:=by unfold seg;rw[aK,cW]
def pP{a n i:Nat}(h:i<n):(seg g a n)[i]?=some (g (a+i)):=by unfold seg;rw[aT,bR h];rfl
def oq{a n x:Nat}(h:x∈seg g a n):∃i,i<n/\x=g (a+i):=by
 obtain⟨i,hi,rfl⟩:=bA.mp h;exact⟨i,cO.mp hi,rfl⟩
def Gz{a n:Nat}(h:So o g a (a+n)):(seg g a n).Pairwise (P o):=by
 rw[cT];intro i j hi hj hij;rw[m7]at hi hj;have e1:=pP (g:=g) (a:=a) hi;have e2:=pP (g:=g) (a:=a) hj;rw[aG (by rw[m7];exact hi)]at e1;rw[aG (by rw[m7];exact hj)]at e2;rw[aR e1,aR e2];exact h _ _ () () ()
def DB{arr:Array Keyed}(hs:arr.size=N)(hg:∀i,i<N->arr[i]?=some (f (g i))){a n:Nat}(h:a+n<=N):arr.extract a (a+n)=fa f (seg g a n):=by
 apply Array.ext_getElem?;intro i;rw[GQ,Array.getElem?_extract];by_cases c:i<n
 ·rw[aN (),pP c,hg _ ()];rfl
 ·rw[aM (),bC (by rw[m7];lia)];rfl
theorem xH{α:Type}(b:Nat):∀(l:List α) (n:Nat) (arr:Array α),((l.zipIdx n).foldl (λa (p,j)=>a.setIfInBounds (b+j) p) arr).size=arr.size
 | [],_,_=>rfl
 | x::l,n,arr=>by
  rw[iG,gR,xH b l (n+1)];exact Array.size_setIfInBounds ..
theorem Ax{α:Type}(b:Nat):∀(l:List α) (n:Nat) (arr:Array α) (k:Nat),b+n+l.length<=arr.size->((l.zipIdx n).foldl (λa (p,j)=>a.setIfInBounds (b+j) p) arr)[k]?=if b+n<=k/\k<b+n+l.length then l[k-(b+n)]? else arr[k]?
 | [],n,arr,k,h=>by rw[aM (by rw[eV];lia)];rfl
 | x::l,n,arr,k,h=>by
  rw[bI]at h;rw[iG,gR,Ax b l (n+1) _ k (by rw[Array.size_setIfInBounds];lia),bI];by_cases c:k=b+n
  ·subst c;rw[aM (),aN (),fG];show(arr.setIfInBounds (b+n) x)[b+n]?=some x;rw[Array.getElem?_setIfInBounds_self_of_lt ()]
  ·by_cases c2:b+n<=k/\k<b+n+(l.length+1)
   ·rw[aN (),aN c2,show k-(b+n)=k-(b+(n+1))+1 by lia,List.getElem?_cons_succ]
   ·rw[aM (),aM c2]
    skip
    rw[Array.getElem?_setIfInBounds_ne ()]
end
section
variable {prog:aj}{w:ah}{A:aA}{E:af->aC->Prop}{s:aC}{o:Ord}{N:Nat}{f:Nat->Keyed}{kd:SortKind}{g:Nat->Nat}{st:SortSt}
def My{Q:PUnit->SortSt->Prop}(h:Q ⟨⟩ st'):wpS (model prog w) A E s (set st':StateT SortSt Sem PUnit) Q st:=by
 unfold wpS;rw[StateT.run_set];exact aL ⟨rfl,h⟩
def Sk(C:xJ prog w A s o N f kd){l1:List (Nat×Nat×Nat)}{sa na nb pw pv:Nat}(h:Sg N f kd g (l1++(sa,na,pw)::(sa+na,nb,pv)::l2).toArray st)(ha:1<=na)(hb:1<=nb)(hN:sa+na+nb<=N)
  (c1:Cl g sa (sa+na)) (s1:So o g sa (sa+na)) (c2:Cl g (sa+na) (sa+na+nb)) (s2:So o g (sa+na) (sa+na+nb))
  {Q:Bool->SortSt->Prop} (q:∀g' st',Sg N f kd g' (l1++(sa,na+nb,pw)::l2).toArray st'->Rn o g g' sa (sa+na+nb)->Q true st'):wpS (model prog w) A E s (mergeAt' l1.length) Q st:=by
 rw[Ce];refine aS (gf ?_);have e1:(pendingOf st)[l1.length]?=some (sa,na,pw):=by rw[h.pend];simp
 have e2:(pendingOf st)[l1.length+1]?=some (sa+na,nb,pv):=by rw[h.pend];simp
 have e3:((pendingOf st).setIfInBounds l1.length (sa,na+nb,pw)).eraseIdxIfInBounds (l1.length+1)=(l1++(sa,na+nb,pw)::l2).toArray:=by
  rw[h.pend,List.setIfInBounds_toArray,eo];congr 1;rw[cX _ _ (aP _),fG,List.eraseIdx_append_of_length_le (),show l1.length+1-l1.length=1 by lia];rfl
 rw[e1,e2];dsimp only;rw[e3];refine aS (My ?_);have h':Sg N f kd g (l1++(sa,na+nb,pw)::l2).toArray (setPending st (l1++(sa,na+nb,pw)::l2).toArray):=⟨h.size,h.get,h.lt,h.kind,h.failed,rfl⟩;obtain⟨st1,hst1⟩:∃st1,st1=setPending st (l1++(sa,na+nb,pw)::l2).toArray:=⟨_,rfl⟩;rw[<- hst1]at h' ⊢;refine aS (jA (h.get (sa+na) ()) ?_);have b0:=c2 (sa+na) () ();refine aS (Ii C h'.kind (h:=λi=>g (sa+i)) (λi hi=>h.get _ ()) (λi hi=>by have:=c1 (sa+i) () ();lia) () (λi j _ a b=>s1 _ _ () () ()) () λk k1 k2 k3=>?_);dsimp only;by_cases cz:na-k=0
 ·rw[aN (by rw[cz];rfl)];refine aZ (q g st1 h' ⟨λ_ _=>rfl,λi a b=>?_,λi j a b c=>?_⟩)
  ·by_cases d:i<sa+na
   ·have:=c1 i a d;lia
   ·have:=c2 i () b;lia
  ·by_cases d:j<sa+na
   ·exact s1 i j a b d
   ·by_cases d2:sa+na<=i
    ·exact s2 i j d2 b c
    ·have r:=k2 (i-sa) ();rw[show sa+(i-sa)=i by lia]at r;by_cases d3:j=sa+na
     ·subst d3;exact r
     ·exact r.trans (s2 _ _ () () c)
 ·rw[aM (by simpa using cz)];have hlast:sa+k+(na-k)-1=sa+na-1:=()
  rw[hlast];refine aS (jA (h.get (sa+na-1) ()) ?_);have a0:=c1 (sa+na-1) () ();refine aS (Hg C h'.kind (h:=λi=>g (sa+na+i)) (λi hi=>h.get _ ()) (λi hi=>by have:=c2 (sa+na+i) () ();lia) (λi j _ a b=>s2 _ _ () () ()) () λt t1 t2 t3=>?_);dsimp only;by_cases cy:t=0
  ·rw[aN (by rw[cy];rfl)];subst cy;refine aZ (q g st1 h' ⟨λ_ _=>rfl,λi a b=>?_,λi j a b c=>?_⟩)
   ·by_cases d:i<sa+na
    ·have:=c1 i a d;lia
    ·have:=c2 i () b;lia
   ·by_cases d:j<sa+na
    ·exact s1 i j a b d
    ·by_cases d2:sa+na<=i
     ·exact s2 i j d2 b c
     ·have r:=t3 (j-(sa+na)) () ();rw[show sa+na+(j-(sa+na))=j by lia]at r;by_cases d3:i=sa+na-1
      ·subst d3;exact r
      ·exact(s1 i (sa+na-1) a () ()).trans r
  ·rw[aM (by simpa using cy)];have x1:(arrOf st).extract (sa+k) (sa+na)=fa f (seg g (sa+k) (na-k)):=by
    have:=DB (f:=f) (g:=g) h.size h.get (a:=sa+k) (n:=na-k) ()
    rwa [show sa+k+(na-k)=sa+na by lia]at this
   have x2:(arrOf st).extract (sa+na) (sa+na+t)=fa f (seg g (sa+na) t):=DB h.size h.get ();rw[x1,x2];have sx:So o g (sa+k) (sa+k+(na-k)):=λi j a b c=>s1 i j () b ();have sy:So o g (sa+na) (sa+na+t):=λi j a b c=>s2 i j a b ();have ab:Ab o N (seg g (sa+k) (na-k)) (seg g (sa+na) t):={
    sa:=Gz sx
    sb:=Gz sy
    lt:=λx hx y hy=>by
     obtain⟨i,hi,rfl⟩:=oq hx;obtain⟨j,hj,rfl⟩:=oq hy;have:=c1 (sa+k+i) () ();have:=c2 (sa+na+j) () ()
     lia
    nb:=λy hy=>by
     obtain⟨j,hj,rfl⟩:=oq hy;exact h.lt _ ()
    na:=λy hy=>by
     obtain⟨j,hj,rfl⟩:=oq hy;exact h.lt _ ()}
   have tp:Top o (seg g (sa+k) (na-k)) (seg g (sa+na) t):=λi x hx hi y hy=>by
    rw[m7]at hi;rw[pP ()]at hx
    cases hx
    obtain⟨j,hj,rfl⟩:=oq hy;rw[show sa+k+i=sa+na-1 by lia];exact t2 j hj
   have bt:SN o (seg g (sa+k) (na-k)) (seg g (sa+na) t):=λy hy x hx=>by
    rw[pP ()]at hy
    cases hy
    obtain⟨i,hi,rfl⟩:=oq hx;have:=k3 (k+i) () ()
    rwa [<- gK]at this
   have fin:∀out st2,Sm st1 st2->Res o f (seg g (sa+k) (na-k)) (seg g (sa+na) t) out->wpS (model prog w) A E s (do
     modify λs=>setArr s (out.toList.zipIdx.foldl (λa (p,j)=>a.setIfInBounds (sa+k+j) p) (arrOf s))
     let s <- get
     pure (failedOf s).isNone) Q st2:=by
    rintro out st2 hm ⟨hs,rfl,hlen,hso,hmem⟩;rw[m7,m7]at hlen;refine aS (eT (aS (gf ?_)));have hf:(failedOf st2)=none:=by rw[hm.f];exact h'.failed
    have hmx:∀j x,hs[j]?=some x->(∃i,i<na-k/\x=g (sa+k+i))\/∃i,i<t/\x=g (sa+na+i):=λj x e=>by
     rcases hmem x (aY e)with z|z
     ·exact .inl (oq z)
     ·exact .inr (oq z)
    have ez:(fa f hs).toList=hs.map f:=by unfold fa;rfl
    have hsz:sa+k+0+(hs.map f).length<=(arrOf st2).size:=by rw[aK,hlen,hm.a,h'.size];lia
    refine aZ ?_
    skip
    rw[hf];refine q (λi=>if sa+k<=i/\i<sa+k+(na-k+t)then hs.getD (i-(sa+k)) 0 else g i) _ ⟨?_,λi hi=>?_,λi hi=>?_,by rw[show kindOf (setArr st2 _)=kindOf st2 from rfl,hm.k];exact h'.kind,hf,by rw[show pendingOf (setArr st2 _)=pendingOf st2 from rfl,hm.p];exact h'.pend⟩ ?_
    ·have:=xH (sa+k) (fa f hs).toList 0 (arrOf st2);rw[hm.a,h'.size]at this;rw[<- this,<- hm.a]
    ·skip
     rw[ez,Ax _ _ _ _ _ hsz,aK,hlen,hm.a];by_cases d:sa+k<=i/\i<sa+k+(na-k+t)
     ·rw[aN (),aN d,aT,Nat.add_zero,getD_at (l:=hs) ()];rfl
     ·rw[aM (),aM d];exact h'.get i hi
    ·by_cases d:sa+k<=i/\i<sa+k+(na-k+t)
     ·rw[aN d]
      rcases hmx _ _ (getD_at (l:=hs) (i:=i-(sa+k)) ())with⟨j,hj,e⟩|⟨j,hj,e⟩
      ·rw[e];exact h.lt _ ()
      ·rw[e];exact h.lt _ ()
     ·rw[aM d];exact h.lt i hi
    ·have gin:∀i,sa+k<=i->i<sa+na+t->(if sa+k<=i/\i<sa+k+(na-k+t)then hs.getD (i-(sa+k)) 0 else g i)=hs.getD (i-(sa+k)) 0:=λi a b=>aN ();have gout:∀i,i<sa+k\/sa+na+t<=i->(if sa+k<=i/\i<sa+k+(na-k+t)then hs.getD (i-(sa+k)) 0 else g i)=g i:=λi a=>aM ();refine⟨λi hi=>gout i (),λi a b=>?_,λi j a b c=>?_⟩
     ·by_cases d:sa+k<=i/\i<sa+na+t
      ·skip
       rw[gin i d.1 d.2]
       rcases hmx _ _ (getD_at (l:=hs) (i:=i-(sa+k)) ())with⟨j,hj,e⟩|⟨j,hj,e⟩
       ·rw[e];have:=c1 (sa+k+j) () ();lia
       ·rw[e];have:=c2 (sa+na+j) () ();lia
      ·skip
       rw[gout i ()];by_cases d2:i<sa+na
       ·have:=c1 i a d2;lia
       ·have:=c2 i () b;lia
     ·skip
      by_cases d1:i<sa+k
      ·rw[gout i (.inl d1)];have r:=k2 (i-sa) ();rw[show sa+(i-sa)=i by lia]at r;by_cases d2:j<sa+k
       ·rw[gout j (.inl d2)];exact s1 i j a b ()
       ·by_cases d3:j<sa+na+t
        ·rw[gin j () d3]
         rcases hmx _ _ (getD_at (l:=hs) (i:=j-(sa+k)) ())with⟨v,hv,e⟩|⟨v,hv,e⟩
         ·rw[e];exact s1 _ _ a () ()
         ·rw[e];by_cases d4:v=0
          ·subst d4;exact r
          ·exact r.trans (s2 _ _ () () ())
        ·rw[gout j ()];exact r.trans (s2 _ _ () () c)
      ·by_cases d2:i<sa+na+t
       ·rw[gin i () d2];by_cases d3:j<sa+na+t
        ·rw[gin j () d3];exact qC hso (getD_at ()) (getD_at ()) ()
        ·rw[gout j ()]
         rcases hmx _ _ (getD_at (l:=hs) (i:=i-(sa+k)) ())with⟨v,hv,e⟩|⟨v,hv,e⟩
         ·rw[e];have r:=t3 (j-(sa+na)) () ();rw[show sa+na+(j-(sa+na))=j by lia]at r;by_cases d4:sa+k+v=sa+na-1
          ·rw[d4];exact r
          ·exact(s1 _ (sa+na-1) () () ()).trans r
         ·rw[e];exact s2 _ _ () () c
       ·rw[gout i (),gout j ()];exact s2 i j () b c
   by_cases cl:na-k<=t
   ·rw[aN cl];exact aS (QW C h'.kind ab tp (by rw[m7];lia) (pP ()) (bt _ (pP ())) fin)
   ·rw[aM cl];exact aS (Rg C h'.kind ab tp bt (by rw[m7];lia) (by rw[m7];lia) fin)
end
meta abbrev pr (x:Nat×Nat×Nat):Nat×Nat:=(x.1,x.2.1)
abbrev p9 (o:Ord)(g:Nat->Nat):List (Nat×Nat)->Nat->Nat->Prop
 | [],a,b=>a=b
 | x::l,a,b=>x.1=a/\1<=x.2/\Cl g a (a+x.2)/\So o g a (a+x.2)/\p9 o g l (a+x.2) b
abbrev PA (o:Ord)(g:Nat->Nat)(p:Array (Nat×Nat×Nat))(b:Nat):Prop:=p9 o g (p.toList.map pr) 0 b
section
variable {o:Ord}{g:Nat->Nat}
def p9.le:∀{l:List (Nat×Nat)}{a b:Nat},p9 o g l a b->a+l.length<=b
 | [],a,b,h=>by have h:a=b:=h;rw[eV];lia
 | x::l,a,b,h=>by
  have:=h.2.2.2.2.le;have:=h.2.1;rw[bI];lia
def p9.congr{g':Nat->Nat}:∀{l:List (Nat×Nat)}{a b:Nat},p9 o g l a b->(∀i,a<=i->i<b->g' i=g i)->p9 o g' l a b
 | [],a,b,h,_=>h
 | x::l,a,b,h,e=>by
  have hb:=h.2.2.2.2.le;refine⟨h.1,h.2.1,λi h1 h2=>?_,λi j h1 h2 h3=>?_,h.2.2.2.2.congr λi h1 h2=>e i () h2⟩
  ·rw[e i h1 ()];exact h.2.2.1 i h1 h2
  ·rw[e i h1 (),e j () ()];exact h.2.2.2.1 i j h1 h2 h3
theorem p9.app:∀{l m:List (Nat×Nat)}{a b:Nat},p9 o g (l++m) a b ↔ ∃c,p9 o g l a c/\p9 o g m c b
 | [],m,a,b=>⟨λh=>⟨a,rfl,h⟩,λ⟨c,h1,h2⟩=>by have h1:a=c:=h1;subst h1;exact h2⟩
 | x::l,m,a,b=>by
  constructor
  ·rintro⟨h1,h2,h3,h4,h5⟩;obtain⟨c,h6,h7⟩:=p9.app.mp h5;exact⟨c,⟨h1,h2,h3,h4,h6⟩,h7⟩
  ·rintro⟨c,⟨h1,h2,h3,h4,h5⟩,h6⟩;exact⟨h1,h2,h3,h4,p9.app.mpr ⟨c,h5,h6⟩⟩
def OU{p:Array (Nat×Nat×Nat)}(h:i+1<p.size):∃l1 x y l2,p=(l1++x::y::l2).toArray/\l1.length=i:=by
 have h':i+1<p.toList.length:=h;refine⟨p.toList.take i,p.toList[i],p.toList[i+1],p.toList.drop (i+2),?_,by rw[bw];lia⟩;apply Array.toList_inj.mp
 skip
 conv=>lhs;rw[<- cK i p.toList,bQ (show i<p.toList.length by lia),bQ h']
end
section
variable {prog:aj}{w:ah}{A:aA}{E:af->aC->Prop}{s:aC}{o:Ord}{N:Nat}{f:Nat->Keyed}{kd:SortKind}{g:Nat->Nat}{p:Array (Nat×Nat×Nat)}{st:SortSt}
def B3(C:xJ prog w A s o N f kd)(h:Sg N f kd g p st){lo:Nat}(hp:PA o g p lo)(hlo:lo<=N)(hi:i+1<p.size)
  {Q:Bool->SortSt->Prop} (q:∀g' p' st',Sg N f kd g' p' st'->PA o g' p' lo->p'.size+1=p.size->(∀k,lo<=k->g' k=g k)->Q true st'):wpS (model prog w) A E s (mergeAt' i) Q st:=by
 obtain⟨l1,⟨sa,na,pw⟩,⟨sb,nb,pv⟩,l2,rfl,rfl⟩:=OU hi;unfold PA at hp;rw[show(l1++(sa,na,pw)::(sb,nb,pv)::l2).toArray.toList=l1++(sa,na,pw)::(sb,nb,pv)::l2 from rfl,bT]at hp;obtain⟨c,h1,h2⟩:=p9.app.mp hp;obtain⟨e1,n1,cl1,so1,e2,n2,cl2,so2,rest⟩:=h2;have e1:sa=c:=e1;subst e1;have e2:sb=sa+na:=e2;subst e2;have l2b:=rest.le;have n1:1<=na:=n1;have n2:1<=nb:=n2;have l2b:sa+na+nb<=lo:=by
  have:sa+na+nb+(List.map pr l2).length<=lo:=l2b
  lia
 refine Sk C h n1 n2 () cl1 so1 cl2 so2 λg' st' h' R=>q g' _ st' h' ?_ (by simp;lia) λk hk=>R.out k ();unfold PA;rw[show(l1++(sa,na+nb,pw)::l2).toArray.toList=l1++(sa,na+nb,pw)::l2 from rfl,bT];refine p9.app.mpr ⟨sa,h1.congr λi a b=>R.out i (),rfl,by show 1<=na+nb;lia,?_,?_,?_⟩
 ·show Cl g' sa (sa+(na+nb));rw[<- gK];exact R.cl
 ·show So o g' sa (sa+(na+nb));rw[<- gK];exact R.so
 ·skip
  rw[<- gK];exact rest.congr λi a b=>R.out i (.inr a)
def yo{p:Array (Nat×Nat×Nat)}{lo:Nat}{u:Nat×Nat×Nat->Nat×Nat×Nat}(hu:∀x,pr (u x)=pr x)(h:PA o g p lo):PA o g (p.modify i u) lo:=by
 unfold PA at h ⊢;have:(p.modify i u).toList.map pr=p.toList.map pr:=by
  rw[Array.toList_modify];apply b_;intro k;rw[aT,aT,List.getElem?_modify]
  cases p.toList[k]? with
  | none=>rfl
  | some x=>
   show some (pr (if i=k then u x else x))=some (pr x);by_cases c:i=k
   ·rw[aN c,hu x]
   ·rw[aM c]
 rw[this];exact h
def u_{p:Array (Nat×Nat×Nat)}{lo n v:Nat}(h:PA o g p lo)(hn:1<=n)(c:Cl g lo (lo+n))(d:So o g lo (lo+n)):PA o g (p.push (lo,n,v)) (lo+n):=by
 unfold PA at h ⊢;rw[Array.toList_push,bT];exact p9.app.mpr ⟨lo,h,rfl,hn,c,d,rfl⟩
def Sg.QI(h:Sg N f kd g p st)(p':Array (Nat×Nat×Nat)):Sg N f kd g p' (setPending st p'):=⟨h.size,h.get,h.lt,h.kind,h.failed,rfl⟩
def K_(C:xJ prog w A s o N f kd)(h:Sg N f kd (λi=>i) #[] st)(hN:1<=N)
  {Q:Unit->SortSt->Prop} (q:∀g' p' st',Sg N f kd g' p' st'->Cl g' 0 N->So o g' 0 N->Q Unit.unit st'):wpS (model prog w) A E s sortRuns' Q st:=by
 rw[sortRuns'_eq];refine aS (gf ?_);dsimp only;rw[h.size];refine aS (dB (cu
  (I:=λx c st'=>∃lo g p,c=(none,lo)/\lo<=N/\(x<=lo\/lo=N)/\Sg N f kd g p st'/\PA o g p lo/\(∀i,lo<=i->g i=i))
  (Q:=λc st'=>∃g p,c=(none,N)/\Sg N f kd g p st'/\PA o g p N) ?step ?fin ⟨0,_,_,rfl,cF _,.inl (aP _),h,rfl,λ_ _=>rfl⟩) ?post)
 case fin=>
  rintro c st' ⟨lo,g,p,rfl,h1,h2,h3,h4,h5⟩;have:lo=N:=()
  subst this;exact⟨g,p,rfl,h3,h4⟩
 case step=>
  intro x c st' _ hx hh;revert hh;revert c;refine VM λlo g p hh=>?_;have h1:=hh.1;have h2:=hh.2.1;have h3:=hh.2.2.1;have h4:=hh.2.2.2.1;have h5:=hh.2.2.2.2;clear hh;dsimp only;by_cases hge:lo>=N
  ·rw[aN hge];have:lo=N:=()
   subst this;exact aZ ⟨g,p,rfl,h3,h4⟩
  ·rw[aM hge];refine aS (wK C h3 () () (λi a b=>h5 i a) λm g1 st1 s1 m1 m2 R1=>?_);dsimp only;by_cases c2:m<minRun' N N 0
   ·rw[aN c2];kpf_c;refine aS (OP C s1 () m1 () R1 (λi a b=>h5 i ()) λg2 st2 s2 R2=>?_);rw[aM ⋯];have n2:1<=min (N-lo) (minRun' N N 0):=()
    have n3:lo+min (N-lo) (minRun' N N 0)<=N:=()
    refine aS (gf ?_);rw[s2.pend];have hp2:=p9.congr h4 λi a b=>R2.out i (.inl b)
    cases e:p.back? with
    | none=>
     dsimp only;refine aS (eT (aZ ⟨_,_,_,rfl,n3,(),s2.QI _,?_,λi hi=>by rw[R2.out i (.inr hi),h5 i ()]⟩));rw[s2.pend];exact u_ hp2 n2 R2.cl R2.so
    | some y=>
     obtain⟨y1,y2,y3⟩:=y;dsimp only;refine aS (dB (cu (I:=λ_ c st'=>c=(none,Unit.unit)/\∃g' p',Sg N f kd g' p' st'/\PA o g' p' lo/\(∀k,lo<=k->g' k=g2 k)) (Q:=λc st'=>c=(none,Unit.unit)/\∃g' p',Sg N f kd g' p' st'/\PA o g' p' lo/\(∀k,lo<=k->g' k=g2 k)) ?vstep (λ_ _ h=>h) ⟨rfl,_,_,s2,hp2,λ_ _=>rfl⟩) ?vpost)
     case vstep=>
      rintro x c st' _ hx ⟨rfl,g',p',h1,h2,h3⟩;refine aS (gf ?_);rw[h1.pend];by_cases c:p'.size>1
      ·rw[aN c]
       cases e:p'[p'.size-2]? with
       | none=>exact aZ ⟨rfl,g',p',h1,h2,h3⟩
       | some y=>
        obtain⟨y1,y2,y3⟩:=y;dsimp only;split
        ·exact aZ ⟨rfl,g',p',h1,h2,h3⟩
        ·refine aS (B3 C h1 h2 () () λg3 p3 st3 s3 q3 _ z3=>?_);exact aZ ⟨rfl,g3,p3,s3,q3,λk hk=>by rw[z3 k hk,h3 k hk]⟩
      ·rw[aM c];exact aZ ⟨rfl,g',p',h1,h2,h3⟩
     case vpost=>
      rintro c st' ⟨rfl,g',p',h1,h2,h3⟩;dsimp only;refine aS (eT (aS (eT (aZ ⟨_,_,_,rfl,n3,(),(h1.QI _).QI _,?_,λi hi=>by rw[h3 i (),R2.out i (.inr hi),h5 i ()]⟩))))
      skip
      rw[h1.pend];exact u_ (yo (λ_=>rfl) h2) n2 (λi a b=>by rw[h3 i a];exact R2.cl i a b) (λi j a b c=>by rw[h3 i a,h3 j ()];exact R2.so i j a b c)
   ·rw[aM c2];have n3:lo+m<=N:=()
    obtain⟨g2,hg2⟩:∃g2,g2=g1:=⟨_,rfl⟩;rw[<- hg2]at R1 s1;have R2:=R1;have s2:=s1;have n2:=m1;refine aS (gf ?_);rw[s2.pend];have hp2:=p9.congr h4 λi a b=>R2.out i (.inl b)
    cases e:p.back? with
    | none=>
     dsimp only;refine aS (eT (aZ ⟨_,_,_,rfl,n3,(),s2.QI _,?_,λi hi=>by rw[R2.out i (.inr hi),h5 i ()]⟩));rw[s2.pend];exact u_ hp2 n2 R2.cl R2.so
    | some y=>
     obtain⟨y1,y2,y3⟩:=y;dsimp only;refine aS (dB (cu (I:=λ_ c st'=>c=(none,Unit.unit)/\∃g' p',Sg N f kd g' p' st'/\PA o g' p' lo/\(∀k,lo<=k->g' k=g2 k)) (Q:=λc st'=>c=(none,Unit.unit)/\∃g' p',Sg N f kd g' p' st'/\PA o g' p' lo/\(∀k,lo<=k->g' k=g2 k)) ?vstep (λ_ _ h=>h) ⟨rfl,_,_,s2,hp2,λ_ _=>rfl⟩) ?vpost)
     case vstep=>
      rintro x c st' _ hx ⟨rfl,g',p',h1,h2,h3⟩;refine aS (gf ?_);rw[h1.pend];by_cases c:p'.size>1
      ·rw[aN c]
       cases e:p'[p'.size-2]? with
       | none=>exact aZ ⟨rfl,g',p',h1,h2,h3⟩
       | some y=>
        obtain⟨y1,y2,y3⟩:=y;dsimp only;split
        ·exact aZ ⟨rfl,g',p',h1,h2,h3⟩
        ·refine aS (B3 C h1 h2 () () λg3 p3 st3 s3 q3 _ z3=>?_);exact aZ ⟨rfl,g3,p3,s3,q3,λk hk=>by rw[z3 k hk,h3 k hk]⟩
      ·rw[aM c];exact aZ ⟨rfl,g',p',h1,h2,h3⟩
     case vpost=>
      rintro c st' ⟨rfl,g',p',h1,h2,h3⟩;dsimp only;refine aS (eT (aS (eT (aZ ⟨_,_,_,rfl,n3,(),(h1.QI _).QI _,?_,λi hi=>by rw[h3 i (),R2.out i (.inr hi),h5 i ()]⟩))))
      skip
      rw[h1.pend];exact u_ (yo (λ_=>rfl) h2) n2 (λi a b=>by rw[h3 i a];exact R2.cl i a b) (λi j a b c=>by rw[h3 i a,h3 j ()];exact R2.so i j a b c)
 case post=>
  rintro c st' ⟨g,p,rfl,h1,h2⟩;dsimp only;refine aS (dB (cu
   (I:=λx c st''=>c=(none,Unit.unit)/\∃g p,Sg N f kd g p st''/\PA o g p N/\(p.size<=1\/p.size+x<=N))
   (Q:=λc st''=>c=(none,Unit.unit)/\∃g p,Sg N f kd g p st''/\PA o g p N/\p.size<=1) ?fstep ?ffin ⟨rfl,g,p,h1,h2,.inr ?finit⟩) ?fpost)
  case finit=>
   have:=p9.le h2;rw[aK]at this;show p.toList.length+0<=N
   lia
  case ffin=>
   rintro c st'' ⟨rfl,g,p,h1,h2,h3⟩;exact⟨rfl,g,p,h1,h2,()⟩
  case fstep=>
   rintro x c st'' _ hx ⟨rfl,g,p,h1,h2,h3⟩;refine aS (gf ?_);rw[h1.pend];by_cases c:p.size<=1
   ·rw[aN c];exact aZ ⟨rfl,g,p,h1,h2,c⟩
   ·rw[aM c];have il:∀(d:Prop) [Decidable d],(if d then p.size-2-1 else p.size-2)+1<p.size:=λd _=>by
     by_cases hd:d
     ·rw[aN hd];lia
     ·rw[aM hd];lia
    refine aS (B3 C h1 h2 (aP _) (il _) λg' p' st3 s3 q3 z3 _=>?_);exact aZ ⟨rfl,g',p',s3,q3,()⟩
  case fpost=>
   rintro c st'' ⟨rfl,g,p,h1,h2,h3⟩;dsimp only;refine aZ ?_;unfold PA at h2;have h3:p.toList.length<=1:=h3
   match hl:p.toList,h3 with
   | [],_=>
    rw[hl]at h2;have:0=N:=h2
    lia
   | [x],_=>
    rw[hl]at h2;obtain⟨e1,e2,e3,e4,e5⟩:=h2;have e5:0+x.2.1=N:=e5;have e3:Cl g 0 (0+x.2.1):=e3;have e4:So o g 0 (0+x.2.1):=e4;rw[e5]at e3 e4;exact q g p st'' h1 e3 e4
end
meta abbrev Fi (h:aq)(a:ak)(vs:ap):aq:=((h.update a (Obj.mapSeq λ_=>#[])).push (seqObj "tuple" vs.toArray 0)).push (seqObj "list" #[] 0)
def KW{h:aq}{a:ak}(hb:b≠a)(hlt:b<h.objs.size):(Fi h a vs).get? b=h.get? b:=by
 rw[gh _ _ _ (by rw[size_push',gF];exact bE (e_ hlt)),
  gh _ _ _ (by rw[gF];exact bE hlt),Heap.get?_update_ne _ _ _ _ hb]
meta abbrev vv (vs:ap)(i:Nat):Keyed:=(vs.getD i .none,vs.getD i .none)
def zip_get(vs:ap){i:Nat}(h:i<vs.length):(vs.toArray.zip vs.toArray)[i]?=some (vv vs i):=by
 have e:vs[i]?=some (vs.getD i .none):=by rw[aI,aG h];rfl
 rw[Array.getElem?_zip_eq_some];exact⟨by rw[eZ];exact e,by rw[eZ];exact e⟩
section
variable {prog:aj}{w:ah}{A:aA}{E:af->aC->Prop}{s:aC}{o:Ord}{kd:SortKind}
def E_{a:ak}{vs:ap}{n:Nat}{P:PySem.Fin->aC->Prop}(hL:s.heap.get? a=some (seqObj "list" vs.toArray n))(hsz:vs.length<=sizeLine)
  (hkk:2<=vs.length->∀Q:SortKind->aC->Prop,Q kd { s with heap:=Fi s.heap a vs }->wpAny (model prog w) A (keyKind' vs.toArray) Q E { s with heap:=Fi s.heap a vs })
  (C:2<=vs.length->xJ prog w A { s with heap:=Fi s.heap a vs } o vs.length (vv vs) kd)
  (h:∀g,Cl g 0 vs.length->So o g 0 vs.length->P (.done (.ret .none)) { s with heap:=sortedHeap s.heap a vs ((List.range vs.length).map λi=>vs.getD (g i) .none).toArray }) :
  wpAny (model prog w) A (Builtin.«list.sort» ⟨[.ref a],[]⟩) P E s:=by
 rw[list_sort_plain];have lta:a<s.heap.objs.size:=bf hL;refine aH (listItems_at hL rfl ?_);refine aH (listUpdate_at hL rfl ?_ (by rw[aQ];exact hsz) (cF _));obtain⟨ep,hL1⟩:∃ep,(s.heap.update a (Obj.mapSeq λ_=>#[])).get? a=some (seqObj "list" #[] ep):=⟨_,get?_update_seq hL (λ_=>#[])⟩;refine aH (seqEpoch_at hL1 rfl ?_);refine aH (wpAny_newTuple ?_);refine aH (wpAny_newList ?_);refine di ?_;have hL6:(Fi s.heap a vs).get? a=some (seqObj "list" #[] ep):=by
  rw[gh _ _ _ (by rw[size_push',gF];exact bE (e_ lta)),gh _ _ _ (by rw[gF];exact bE lta)];exact hL1
 skip
 dsimp only;have hz:vs.toArray.size=vs.length:=by simp
 have getE:∀i,i<vs.length->vs[i]?=some (vs.getD i .none):=λi hi=>by rw[aI,aG hi];rfl
 have Qy:∀(arr:Array Keyed) (g:Nat->Nat),arr.size=vs.length->(∀i,i<vs.length->arr[i]?=some (vv vs (g i)))->arr.map (·.2)=((List.range vs.length).map λi=>vs.getD (g i) .none).toArray:=λarr g h1 two=>by
  apply Array.ext_getElem?;intro i;have e0:((List.range vs.length).map λi=>vs.getD (g i) Value.none).toArray[i]?=((List.range vs.length).map λi=>vs.getD (g i) Value.none)[i]?:=eZ ..;rw[Array.getElem?_map,e0,aT];by_cases c:i<vs.length
  ·rw[two i c,bR c];rfl
  ·rw[Array.getElem?_eq_none (),bC (by rw[cW];lia)];rfl
 by_cases two:vs.toArray.size<2
 ·rw[aN two,aN two];refine aH (aL ?_);rw[StateT.run_pure];refine aH (aL ?_);dsimp only;refine aH (seqEpoch_at hL6 rfl ?_);have oe:=Qy (vs.toArray.zip vs.toArray) (λi=>i) (by rw[iW,hz];lia) λi hi=>zip_get vs hi;refine aH (listUpdate_at hL6 rfl ?_ (by simp) (hsz2:=by rw[size_map];show(vs.toArray.zip vs.toArray).size<=_;rw[iW,hz];lia));dsimp[bne_self_eq_false,bF,cE];refine aL ?_;have:=h (λi=>i) (λi a b=>⟨a,b⟩) (λi j a b c=>());rw[<- oe]at this;exact this
 ·rw[aM two,aM two];have h2':2<=vs.length:=()
  refine aH (hkk h2' _ ?_);refine aH (eN (K_ (f:=vv vs) (N:=vs.length) (C h2') (st:=SortSt.mk' kd (vs.toArray.zip vs.toArray) #[] 7 none)
   (Q:=λ_ st'=>∃g p,Sg vs.length (vv vs) kd g p st'/\Cl g 0 vs.length/\So o g 0 vs.length)
   ⟨by show(vs.toArray.zip vs.toArray).size=_;rw[iW,hz];lia,λi hi=>zip_get vs hi,λi hi=>hi,rfl,rfl,rfl⟩ () λg' p' st' a1 a2 a3=>⟨g',p',a1,a2,a3⟩) ?_ λ_ _ e=>e)
  rintro⟨⟨⟩,st'⟩ s' ⟨rfl,g,p,hS,hc,hso⟩;dsimp only;refine aH (seqEpoch_at hL6 rfl ?_);have oe:=Qy (arrOf st') g hS.size hS.get;refine aH (listUpdate_at hL6 rfl ?_ (by simp) (hsz2:=by have hh:(arrOf st').size=vs.length:=hS.size;show((arrOf st').map (·.2)).size<=_;rw[size_map,hh];lia));rw[hS.failed];dsimp[bne_self_eq_false,bF,cE];have:=h g hc hso;rw[<- oe]at this;exact aL this
end
section
variable {prog:aj}{w:ah}{A:aA}{E:af->aC->Prop}{s:aC}
def FG(b:Bool)(x y:af):keyLt' (tuples' b) x y=(do
  let us <- Builtin.List.listItems x
  let vs <- Builtin.List.listItems y
  for ((u,v),k)in (us.toList.zip vs.toList).zipIdx do
   if !(<- eqBool u v)then return <- oneLt' (b && k == 0) u v
  return us.size<vs.size):=rfl
def Mc(b:Bool){x y:Int}{t:Tok}{Q:Bool->aC->Prop}(h:Q (decide (x<y)) s):wpAny (model prog w) A (oneLt' b (.int x t) (.int y u)) Q E s:=by
 cases b with
 | true=>exact oneLt_int h
 | false=>
  rw[oneLt'_eq];dsimp[bF,cE];exact aH (PySem.P.lt_int (dS h))
def BG(b:Bool){k:ak}{xs ys:ap}{ns:ae}{Q:Bool->aC->Prop}(hl:IsTup s.heap l xs.toArray)(hk:IsTup s.heap k ys.toArray)(hi:IntsAre xs ns)(hj:IntsAre ys ms)(h:Q (HT.lexLt ns ms) s) :
  wpAny (model prog w) A (keyLt' (tuples' b) (.ref l) (.ref k)) Q E s:=by
 rw[FG];obtain⟨o1,ho1,_,n1,hd1⟩:=hl;obtain⟨o2,ho2,_,n2,hd2⟩:=hk;refine aH (listItems_at ho1 hd1 ?_);refine aH (listItems_at ho2 hd2 ?_);have key:∀(xs ys:ap) (ns ms:ae) (n:Nat),IntsAre xs ns->IntsAre ys ms->∀Q':bd×Unit->aC->Prop,(∀r,(r=some (HT.lexLt ns ms)\/(r=none/\HT.lexLt ns ms=decide (xs.length<ys.length)))->Q' (r,Unit.unit) s) ->
   wpAny (model prog w) A (forIn ((xs.zip ys).zipIdx n) ((none,Unit.unit):bd×Unit) λx c=>match x with
      | ((p,q),i)=>do
       let e <- eqBool p q
       if (!e)=true then do
         let r <- oneLt' (b && i == 0) p q
         pure (ForInStep.done (some r,Unit.unit))
        else pure (ForInStep.yield (none,Unit.unit))) Q' E s:=by
  intro xs
  induction xs with
  | nil=>
   intro ys ns ms n h1 h2 Q' q
   cases h1
   rw[List.zip_nil_left,List.zipIdx_nil,iU];refine aL (q none (.inr ⟨rfl,?_⟩))
   cases h2 with
   | nil=>rw[HT.oM];rfl
   | cons a t h2=>rw[HT.l7,bg (by simp)]
  | cons v vs ih=>
   intro ys ns ms n h1 h2 Q' q
   cases h1 with
   | cons a t h1=>
    cases h2 with
    | nil=>
     rw[List.zip_nil_right,List.zipIdx_nil,iU];exact aL (q none (.inr ⟨rfl,by rw[HT.nU,a_ (by simp)]⟩))
    | cons c u h2=>
     rw[List.zip_cons_cons,iG,iO];rw[HT.lE]at q;dsimp only;refine aH (aH (wpAny_eqBool_int ?_));by_cases e:a=c
     ·rw[aN e]at q;subst e;dsimp[bN,gJ,bF,cE];refine aL (ih _ _ _ _ h1 h2 _ λr hr=>q r ?_)
      rcases hr with hr|⟨hr,hz⟩
      ·exact .inl hr
      ·exact .inr ⟨hr,by rw[hz];simp⟩
     ·rw[aM e]at q;have e':(a == c)=false:=by simpa using e
      dsimp[e',gg,cN];exact aH (Mc _ (aL (aL (q _ (.inl rfl)))))
 refine aH (key xs ys ns ms 0 hi hj _ λr hr=>?_)
 rcases hr with rfl|⟨rfl,hz⟩
 ·exact aL h
 ·dsimp only;rw[aQ,aQ,<- hz];exact aL h
end
theorem qV:∀a:ae,HT.lexLt a a=false
 | []=>HT.oM
 | x::a=>by rw[HT.lE,aN rfl];exact qV a
theorem we:∀{a b c:ae},HT.lexLt a b=true->HT.lexLt b c=true->HT.lexLt a c=true
 | [],[],_,h,_=>by rw[HT.oM]at h;cases h
 | x::a,[],_,h,_=>by rw[HT.nU]at h;cases h
 | _,y::b,[],_,h=>by rw[HT.nU]at h;cases h
 | [],y::b,z::c,_,_=>HT.l7 ..
 | x::a,y::b,z::c,h1,h2=>by
  rw[HT.lE]at h1 h2 ⊢;by_cases e1:x=y
  ·rw[aN e1]at h1;by_cases e2:y=z
   ·rw[aN e2]at h2;rw[aN (e1.trans e2)];exact we h1 h2
   ·rw[aM e2]at h2;have:=c8 h2;rw[aM (by omega)];exact bg (by omega)
  ·rw[aM e1]at h1;have l1:=c8 h1;by_cases e2:y=z
   ·rw[aM (by omega)];exact bg (by omega)
   ·rw[aM e2]at h2;have:=c8 h2;rw[aM (by omega)];exact bg (by omega)
theorem yW:∀{a b:ae},HT.lexLt a b=false->HT.lexLt b a=false->a=b
 | [],[],_,_=>rfl
 | [],y::b,h,_=>by rw[HT.l7]at h;cases h
 | x::a,[],_,h=>by rw[HT.l7]at h;cases h
 | x::a,y::b,h1,h2=>by
  rw[HT.lE]at h1 h2;by_cases e:x=y
  ·rw[aN e]at h1;rw[aN e.symm]at h2;rw[e,yW h1 h2]
  ·rw[aM e]at h1;rw[aM (λz=>e z.symm)]at h2;have:=of_decide_eq_false h1;have:=of_decide_eq_false h2
   lia
def Dl{a c:ae}(h:HT.lexLt a c=true):HT.lexLt a b=true\/HT.lexLt b c=true:=by
 cases e:HT.lexLt a b with
 | true=>exact .inl rfl
 | false=>
  right
  cases e2:HT.lexLt b a with
  | true=>exact we e2 h
  | false=>rw[<- yW e e2];exact h
abbrev Gb (kss:List (ae)):Ord where
 lt i j:=HT.lexLt (kss.getD i []) (kss.getD j [])
 Ma i:=qV _
 tr i j k:=we
 neg i j k:=Dl
section
variable {prog:aj}{w:ah}{A:aA}{E:af->aC->Prop}{s:aC}
theorem Dw{α β:Type}{f:α->Sem β}(r:α->β):∀(l:List α),(∀a∈l,∀Q:β->aC->Prop,Q (r a) s->wpAny M A (f a) Q E s)->∀Q:List β->aC->Prop,Q (l.map r) s->wpAny M A (l.mapM f) Q E s
 | [],_,Q,q=>by rw[List.mapM_nil];exact aL q
 | a::l,h,Q,q=>by
  rw[List.mapM_cons];refine aH (h a (aW ..) _ (aH (Dw r l (λb hb=>h b (aV _ hb)) _ (aL q))))
def D0{α β:Type}{f:α->Sem β}(r:α->β)(l:List α)(h:∀a∈l,∀Q:β->aC->Prop,Q (r a) s->wpAny M A (f a) Q E s)(Q:Array β->aC->Prop)(q:Q (l.map r).toArray s):wpAny M A (l.toArray.mapM f) Q E s:=by
 rw[List.mapM_toArray,map_eq_pure_bind];exact aH (Dw r l h _ (aL q))
def GA(u:af):firstOfTuple' u=(do
  if (<- typeOf u) != .type "tuple" then return none
  return (<- Builtin.List.listItems u)[0]?):=rfl
def Fj{vs:ap}(h0:vs≠[])(ht:∀v∈vs,∃(l:ak) (xs:ap) (n:Int) (t:Tok),v=.ref l/\IsTup s.heap l (.int n t::xs).toArray){Q:SortKind->aC->Prop}(q:Q (tuples' true) s) :
  wpAny (model prog w) A (keyKind' vs.toArray) Q E s:=by
 have ch:∀v,∃x:Int×Tok,v∈vs->∃(l:ak) (xs:ap),v=.ref l/\IsTup s.heap l (.int x.1 x.2::xs).toArray:=λv=>by
  by_cases c:v∈vs
  ·obtain⟨l,xs,n,t,e1,e2⟩:=ht v c;exact⟨(n,t),λ_=>⟨l,xs,e1,e2⟩⟩
  ·exact⟨(0,0),λz=>absurd z c⟩
 obtain⟨F,hF⟩:=Classical.axiomOfChoice ch;rw[keyKind'_eq];refine aH (D0 (λv=>some (Value.int (F v).1 (F v).2)) vs (λv hv Q' q'=>?_) _ ?_)
 ·obtain⟨l,xs,rfl,o,ho,hc,n,hd⟩:=hF v hv;rw[GA];refine aH (iL (T := "tuple") ⟨o,ho,hc⟩ ?_);rw[aM ⋯];exact aH (listItems_at ho hd (aL q'))
 ·rw[aN (by simp)];refine aH (fh ?_);have e1:(vs.map λv=>some (Value.int (F v).1 (F v).2)).toArray.filterMap id=(vs.map λv=>Value.int (F v).1 (F v).2).toArray:=by
   rw[List.filterMap_toArray,g_];congr 1;rw[show(id ∘ λv=>some (Value.int (F v).1 (F v).2))=λv=>some (Value.int (F v).1 (F v).2)from rfl];exact congrFun List.filterMap_eq_map' vs
  rw[e1,oneTypeOnly'_eq];refine aH (aH (D0 (λ_=>Value.type "int") _ (λv hv Q' q'=>?_) _ ?_))
  ·obtain⟨u,_,rfl⟩:=bA.mp hv;exact aL q'
  ·rw[bV];obtain⟨v0,vs',rfl⟩:∃v0 vs',vs=v0::vs':=by
    cases vs with
    | nil=>exact absurd rfl h0
    | cons a b=>exact⟨a,b,rfl⟩
   have ha:((List.map ((λ_=>Value.type "int") ∘ λv=>Value.int (F v).1 (F v).2) (v0::vs')).toArray.all λx=>x == Value.type "int")=true:=by
    dsimp[List.all_toArray,all_map,eG];intro _ _;rfl
   have hz:(List.map ((λ_=>Value.type "int") ∘ λv=>Value.int (F v).1 (F v).2) (v0::vs')).toArray[0]?=some (Value.type "int"):=by simp
   rw[hz];dsimp[ha,cN];exact aL (aL q)
end
end Sx
namespace L2
open PySem PySem.Spec PyProof.Rows
section
variable {X:Cx}
theorem ye:∀{rs:ar}{its:ap},Vals (rs.map V.ref) its->its=rs.map Value.ref
 | [],_,r=>by cases r;rfl
 | a::rs,_,r=>by
  cases r with
  | cons h t=>
   have e:_=Value.ref a:=h;rw[e,ye t];rfl
theorem xU:∀(rs:ar),Vals (rs.map V.ref) (rs.map Value.ref)
 | []=>.nil
 | a::rs=>.cons (show RelV (.ref a) (.ref a)from rfl) (xU rs)
def FP{s:aC}{H:Hp}{Q:VK}{h':aq}{tk:Nat}{rs:ar}{kss:List (ae)}(I1:Inv X pins σ H { s with heap:=h',toks:=tk })(hlen:rs.length=kss.length)(hz:rs.length<=sizeLine)
  (hT:∀(i:Nat) (r:ak) (ks:ae),rs[i]?=some r->kss[i]?=some ks->mz X.K H r (ks.map V.int)/\ks≠[])
  (q:∀l g,H l=none->Sx.Cl g 0 kss.length->Sx.So (Sx.Gb kss) g 0 kss.length->Q (.ref l) (upd H l (.lst (((List.range kss.length).map λi=>rs.getD (g i) 0).map V.ref)))) :
  wpAny (model X.prog X.w) X.A.in1 (do
   let l <- newList (rs.map Value.ref)
   let _ <- holding [l] (call (Value.builtin "list.sort") [l] [])
   ret l) (λfin s'=>∃v,fin=Fin.done (Flow.ret v)/\EP X pins σ Q v s') X.xe { s with heap:=h',toks:=tk }:=by
 have hN:(rs.map Value.ref).length=kss.length:=by rw[aK,hlen]
 refine aH (wpAny_newList ?_);have hoL:(h'.push (seqObj "list" (rs.map Value.ref).toArray 0)).get? h'.objs.size=some (seqObj "list" (rs.map Value.ref).toArray 0):=bu _ rfl
 skip
 have tup:∀(i:Nat) (r:ak) (ks:ae),rs[i]?=some r->kss[i]?=some ks->∃its:ap,IntsAre its ks/\IsTup (Sx.Fi (h'.push (seqObj "list" (rs.map Value.ref).toArray 0)) h'.objs.size (rs.map Value.ref)) r its.toArray:=λi r ks e1 e2=>by
  obtain⟨its,rv,⟨o,ho,hc,n,hd⟩,_⟩:=I1.tuple (hT i r ks e1 e2).1;refine⟨its,intsAre_of rv,o,?_,hc,n,hd⟩;have lt:r<h'.objs.size:=bf ho;rw[Sx.KW (bE lt) (by rw[eF];exact e_ lt)];exact aO _ ho
 refine aH (di (c5 slot_list_sort ⟨_,hoL,rfl⟩ entry_list_sort (Sx.E_ (o:=Sx.Gb kss) (kd:=tuples' true) hoL (by rw[hN];lia) (λh2 Q' q'=>?_) (λh2 i j hi hj E' Q' q'=>?_) λg hc hs=>⟨_,rfl,?_⟩) (args_list_sort _)))
 ·refine Sx.Fj (λz=>by rw[z]at h2;simp at h2) (λv hv=>?_) q';obtain⟨i,hi⟩:=dY hv;rw[aT]at hi;obtain⟨r,hr,rfl⟩:=br.mp hi;have lt:=(aJ.mp hr).1;have e2:kss[i]?=some kss[i]:=aG ();obtain⟨its,h1,h3⟩:=tup i r _ hr e2;have hne:=(hT i r _ hr e2).2;generalize kss[i]=ks at h1 hne
  cases h1 with
  | nil=>exact absurd rfl hne
  | cons a t h1=>exact⟨r,_,a,t,rfl,h3⟩
 ·rw[hN]at hi hj;have e1:rs[i]?=some (rs[i]'()):=aG _;have e2:rs[j]?=some (rs[j]'()):=aG _;have k1:kss[i]?=some kss[i]:=aG hi;have k2:kss[j]?=some kss[j]:=aG hj;obtain⟨x1,a1,b1⟩:=tup i _ _ e1 k1;obtain⟨x2,a2,b2⟩:=tup j _ _ e2 k2;have v1:(rs.map Value.ref).getD i .none=.ref (rs[i]'()):=by rw[aI,aT,e1];rfl
  have v2:(rs.map Value.ref).getD j .none=.ref (rs[j]'()):=by rw[aI,aT,e2];rfl
  show wpAny _ _ (keyLt' (tuples' true) ((rs.map Value.ref).getD i .none) ((rs.map Value.ref).getD j .none)) Q' E' _;rw[v1,v2];refine Sx.BG true b1 b2 a1 a2 ?_;have d1:kss.getD i []=kss[i]:=by rw[aI,k1];rfl
  have d2:kss.getD j []=kss[j]:=by rw[aI,k2];rfl
  have:(Sx.Gb kss).lt i j=HT.lexLt kss[i] kss[j]:=by show HT.lexLt _ _=_;rw[d1,d2]
  rw[<- this];exact q'
 ·rw[hN]at hc hs ⊢;obtain⟨e,he⟩:=sortedHeap_at (out:=((List.range kss.length).map λi=>(rs.map Value.ref).getD (g i) .none).toArray) hoL;have old:∀b ob,h'.get? b=some ob->(sortedHeap (h'.push (seqObj "list" (rs.map Value.ref).toArray 0)) h'.objs.size (rs.map Value.ref) ((List.range kss.length).map λi=>(rs.map Value.ref).getD (g i) .none).toArray).get? b=some ob:=λb ob eb=>by
   rw[sortedHeap_old (bE (bf eb)) (by rw[eF];exact e_ (bf eb))];exact aO _ eb
  refine aL ⟨_,rfl,.ref h'.objs.size,_,I1.laid (t':=tk) (o:=.lst (((List.range kss.length).map λi=>rs.getD (g i) 0).map V.ref)) old (aP _) ?_,rfl,q _ g (I1.hok.fresh (aP _)) hc hs⟩;refine⟨by rw[aK,aK,cW];lia,((List.range kss.length).map λi=>rs.getD (g i) 0).map Value.ref,e,xU _,?_⟩;rw[he];congr 2;rw[bV];congr 1;refine fL λi hi=>?_;have:=(hc i (cF _) (cO.mp hi)).2;have lt:g i<rs.length:=()
  show(rs.map Value.ref).getD (g i) .none=Value.ref (rs.getD (g i) 0);rw[aI,aT,aG lt,aI,aG lt];rfl
def yJ:jE X (.builtin "sorted") (λxs H Q=>∃(p:ak) (rs:ar) (kss:List (ae)),xs=[.ref p]/\mw X.K H p (rs.map V.ref)/\rs.length=kss.length /\
  (∀(i:Nat) (r:ak) (ks:ae),rs[i]?=some r->kss[i]?=some ks->mz X.K H r (ks.map V.int)/\ks≠[]) /\
  ∀l g,H l=none->Sx.Cl g 0 kss.length->Sx.So (Sx.Gb kss) g 0 kss.length->Q (.ref l) (upd H l (.lst (((List.range kss.length).map λi=>rs.getD (g i) 0).map V.ref)))):=by
 k_ne;obtain⟨p,rs,kss,rfl,hq,hlen,hT,q⟩:=h;gp_on
 cases rx
 obtain⟨its,rv,pl,hz⟩:=I.list hq;have ei:=ye rv;subst ei;obtain⟨o,ho,hcl,n,hd⟩:=pl.isList;rw[aK]at hz;have hN:(rs.map Value.ref).length=kss.length:=by rw[aK,hlen]
 refine Calls.call_function_entry kind_sorted plain_sorted entry_sorted (args_sorted1 _) ?_;unfold Builtin.«sorted»;refine aH (m:=checkCount "sorted" 1 1 _) (aL ?_);refine aH (wpAny_collect_seq p (.inl rfl) ho hcl hd (λh' hk=>FP (s:=s) (I.kept (t':=s.toks) hk) hlen hz hT q) (by rw[aQ,hN];lia))
end
end L2
namespace Am
open PySem
inductive A where
 | unb|non|bl (b:Bool)|int (i:Int)|str (x:Str)|tup (xs:List A)|frz (xs:List A)|rng (lo hi:Int)|ref (n:Nat)|exn (c:Str)|ty (n:String)|ktu (xs:List A)
@[reducible]def ad:=List A
inductive O where
 | lst (xs:ad)|dct (kvs:List (ae×A))|dki (kvs:List (Int×A))|ins (c:Str) (fs:List (Str×A))
meta abbrev jd:=List O
inductive R (α:Type) where
 | ok (a:α) (S:jd)|ex (c:Str) (S:jd)|no
abbrev R.bind {α β:Type}(r:R α)(f:α->jd->R β):R β:=match r with
 | .ok a S=>f a S
 | .ex c S=>.ex c S
 | .no=>.no
abbrev R.post {α:Type}(r:R α)(P:α->jd->Prop)(E:Str->jd->Prop):Prop:=match r with
 | .ok a S=>P a S
 | .ex c S=>E c S
 | .no=>False
def jh{α β:Type}{r:R α}{f:α->jd->R β}{P:β->jd->Prop}{E:Str->jd->Prop}(h:(r.bind f).post P E):r.post (λa S=>(f a S).post P E) E:=by
 cases r<;>exact h
def F0{α:Type}{r:R α}{P P':α->jd->Prop}{E E':Str->jd->Prop}(h:r.post P E)(hp:∀a S,P a S->P' a S)(he:∀c S,E c S->E' c S):r.post P' E':=by
 cases r with
 | ok a S=>exact hp _ _ h
 | ex c S=>exact he _ _ h
 | no=>exact h.elim
abbrev gd {α:Type}(c:Prop)[Decidable c](r:R α):R α:=if c then r else .no
abbrev opt {α β:Type}(o:Option β)(f:β->R α):R α:=match o with
 | some b=>f b
 | none=>.no
def jv{α:Type}{c:Prop}[Decidable c]{r:R α}{P:α->jd->Prop}{E:Str->jd->Prop}(h:(gd c r).post P E):c/\r.post P E:=by
 unfold gd at h;by_cases hc:c
 ·rw[aN hc]at h;exact⟨hc,h⟩
 ·rw[aM hc]at h;exact h.elim
def je{α β:Type}{o:Option β}{f:β->R α}{P:α->jd->Prop}{E:Str->jd->Prop}(h:(opt o f).post P E):∃b,o=some b/\(f b).post P E:=by
 cases o with
 | none=>exact h.elim
 | some b=>exact⟨b,rfl,h⟩
def Lw{α:Type}{c:Prop}[Decidable c]{r:R α}(h:c):gd c r=r:=aN h
abbrev i_ (S:jd)(n:Nat):Option (ad):=match S[n]? with
 | some (.lst xs)=>some xs
 | _=>none
def jn{n:Nat}(h:i_ S n=some xs):S[n]?=some (.lst xs):=by
 unfold i_ at h;split at h
 ·rename_i e;cases h;exact e
 ·cases h
def sJ{S:jd}{n:Nat}(h:S[n]?=some (.lst xs)):i_ S n=some xs:=by
 unfold i_;rw[h]
inductive RS where
 | nx (τ:ad) (S:jd)|rt (a:A) (S:jd)|bk (τ:ad) (S:jd)|ct (τ:ad) (S:jd)|ex (c:Str) (S:jd)|no
meta abbrev Ex:=ad->jd->R A
meta abbrev pO:=ad->jd->R (ad)
meta abbrev Te:=ad->jd->R Bool
meta abbrev Sm:=ad->jd->RS
meta abbrev Tg:=A->ad->jd->R (ad)
end Am
namespace Am
open PySem L2
section
variable (K:au) (ρ:ar) (H:Hp)
abbrev UN (K:au)(c:Str)(C:ak):Prop:=PySem.W.nsIn K mainGlobals c=some (some (.ref C))
abbrev Fz (K:au)(H:Hp)(a:ak)(vs:List V):Prop:=
 (∃o,H a=some (.frz o (.lst vs)))\/∃(o:Obj) (its:Array af) (n:Nat),K.lookup a=some o/\o.cls=.type "list" /\ o.dict=none/\o.data=.seq its n/\its.size<=sizeLine/\Vals vs its.toList
abbrev V3 (K:au)(a:ak)(vs:List V):Prop:=∃(o:Obj) (its:Array af) (n:Nat),K.lookup a=some o/\o.cls=.type "tuple" /\ o.dict=none/\o.data=.seq its n/\its.size<=sizeLine/\Vals vs its.toList
mutual
inductive AV:A->V->Prop
 | non:AV .non .non
 | bl (b:Bool):AV (.bl b) (.bl b)
 | int (i:Int):AV (.int i) (.int i)
 | str (x:Str):AV (.str x) (.str x)
 | ty (n:String):AV (.ty n) (.ty n)
 | tup {a:ak} {xs:ad} {vs:List V} (h:H a=some (.tup vs)) (r:AVs xs vs):AV (.tup xs) (.ref a)
 | frz {a:ak} {xs:ad} {vs:List V} (h:Fz K H a vs) (r:AVs xs vs):AV (.frz xs) (.ref a)
 | rng {a:ak} {lo hi:Int} (h:H a=some (.rng lo hi)):AV (.rng lo hi) (.ref a)
 | ref {a:ak} {n:Nat} (h:ρ[n]?=some a):AV (.ref n) (.ref a)
 | exn {a C:ak} {c:Str} {oe:Obj} (n:UN K c C) (h:H a=some (.frz oe xu)) (x:XO C oe):AV (.exn c) (.ref a)
 | ktu {a:ak} {xs:ad} {vs:List V} (h:V3 K a vs) (r:AVs xs vs):AV (.ktu xs) (.ref a)
inductive AVs:ad->List V->Prop
 | nil:AVs [] []
 | cons {x:A} {v:V} {xs:ad} {vs:List V} (h:AV x v) (t:AVs xs vs):AVs (x::xs) (v::vs)
end
abbrev DV:List (ae×A)->List (List Key×V)->Prop
 | [],[]=>True
 | p::r,q::r'=>(q.1=p.1.map Sum.inl/\AV K ρ H p.2 q.2)/\DV r r'
 | _,_=>False
abbrev DI:List (Int×A)->List (Key×V)->Prop
 | [],[]=>True
 | p::r,q::r'=>(q.1=Sum.inl p.1/\AV K ρ H p.2 q.2)/\DI r r'
 | _,_=>False
abbrev OR (a:ak):O->Prop
 | .lst xs=>∃vs,H a=some (.lst vs)/\AVs K ρ H xs vs
 | .dct kvs=>∃ks,H a=some (.dT ks)/\DV K ρ H kvs ks
 | .dki kvs=>∃ks,H a=some (.dK ks)/\DI K ρ H kvs ks
 | .ins _ _=>∃o u,H a=some (.frz o u)
structure Rel (S:jd):Prop where
 len:ρ.length=S.length
 nd:ρ.Nodup
 «at»:∀(n:Nat) (a:ak) (o:O),ρ[n]?=some a->S[n]?=some o->OR K ρ H a o
end
abbrev V8:HO->Prop
 | .tup _=>True
 | .rng _ _=>True
 | .frz _ _=>True
 | _=>False
structure Ext0 (ρ ρ':ar)(H H':Hp):Prop where
 pre:ρ <+: ρ'
 im:∀a u,V8 u->H a=some u->H' a=some u
structure Ext (ρ ρ':ar)(H H':Hp):Prop extends Ext0 ρ ρ' H H' where
 fr:∀a u,H a=some u->a∉ρ->H' a=some u
 nw:∀a,a∈ρ'->a∈ρ\/H a=none
def Ext.refl{H:Hp}:Ext ρ ρ H H:=⟨⟨dI _,λ_ _ _ h=>h⟩,λ_ _ h _=>h,λ_ h=>.inl h⟩
def Ext.trans{H H1 H2:Hp}(a:Ext ρ ρ1 H H1)(b:Ext ρ1 ρ2 H1 H2):Ext ρ ρ2 H H2:=⟨⟨a.pre.trans b.pre,λx u i h=>b.im x u i (a.im x u i h)⟩,λx u h n=>b.fr x u (a.fr x u h n) λz=>(a.nw x z).elim n λz=>by(rw[z]at h;cases h),λx h=>by
 by_cases hx:x∈ρ
 ·exact .inl hx
 ·right
  cases q:H x with
  | none=>rfl
  | some u=>
   rcases b.nw x h with z|z
   ·exact((a.nw x z).elim hx λz=>by(rw[z]at q;cases q)).elim
   ·rw[a.fr x u q hx]at z;cases z⟩
def Ext0.get{H H':Hp}(e:Ext0 ρ ρ' H H'){n:Nat}{a:ak}(h:ρ[n]?=some a):ρ'[n]?=some a:=by
 obtain⟨t,rfl⟩:=e.pre;rw[bD (aJ.mp h).1];exact h
section
variable {K:au}{ρ ρ':ar}{H H':Hp}
def Ext0.Vm(e:Ext0 ρ ρ' H H'){a:ak}(h:mz K H a vs):mz K H' a vs:=by
 rcases h with(h|⟨o,h⟩)|h
 ·exact .inl (.inl (e.im _ _ trivial h))
 ·exact .inl (.inr ⟨o,e.im _ _ trivial h⟩)
 ·exact .inr h
def Ext0.fz(e:Ext0 ρ ρ' H H'){a:ak}(h:Fz K H a vs):Fz K H' a vs:=by
 rcases h with⟨o,h⟩|h
 ·exact .inl ⟨o,e.im _ _ trivial h⟩
 ·exact .inr h
def Fz.II{a:ak}(h:Fz K H a vs):mw K H a vs:=by
 rcases h with⟨o,h⟩|h
 ·exact .inl (.inr ⟨o,h⟩)
 ·exact .inr h
mutual
theorem AV.kM(e:Ext0 ρ ρ' H H'):∀{x:A}{v:V},AV K ρ H x v->AV K ρ' H' x v
 | _,_,.non=>.non
 | _,_,.bl b=>.bl b
 | _,_,.int i=>.int i
 | _,_,.str x=>.str x
 | _,_,.ty x=>.ty x
 | _,_,.tup h r=>.tup (e.im _ _ trivial h) (AVs.kM e r)
 | _,_,.frz h r=>.frz (e.fz h) (AVs.kM e r)
 | _,_,.rng h=>.rng (e.im _ _ trivial h)
 | _,_,.ref h=>.ref (e.get h)
 | _,_,.exn n h x=>.exn n (e.im _ _ trivial h) x
 | _,_,.ktu h r=>.ktu h (AVs.kM e r)
theorem AVs.kM(e:Ext0 ρ ρ' H H'):∀{xs:ad}{vs:List V},AVs K ρ H xs vs->AVs K ρ' H' xs vs
 | _,_,.nil=>.nil
 | _,_,.cons h t=>.cons (AV.kM e h) (AVs.kM e t)
end
theorem DV.kM(e:Ext0 ρ ρ' H H'):∀{xs:List (ae×A)}{vs:List (List Key×V)},DV K ρ H xs vs->DV K ρ' H' xs vs
 | [],[],_=>trivial
 | _::_,_::_,⟨⟨a,b⟩,r⟩=>⟨⟨a,AV.kM e b⟩,DV.kM e r⟩
def DV.ext{x:List (ae×A)}{v:List (List Key×V)}(h:DV K ρ H x v)(e:Ext ρ ρ' H H'):DV K ρ' H' x v:=DV.kM e.toExt0 h
theorem DI.kM(e:Ext0 ρ ρ' H H'):∀{xs:List (Int×A)}{vs:List (Key×V)},DI K ρ H xs vs->DI K ρ' H' xs vs
 | [],[],_=>trivial
 | _::_,_::_,⟨⟨a,b⟩,r⟩=>⟨⟨a,AV.kM e b⟩,DI.kM e r⟩
def DI.ext{x:List (Int×A)}{v:List (Key×V)}(h:DI K ρ H x v)(e:Ext ρ ρ' H H'):DI K ρ' H' x v:=DI.kM e.toExt0 h
def AV.ext{x:A}{v:V}(h:AV K ρ H x v)(e:Ext ρ ρ' H H'):AV K ρ' H' x v:=AV.kM e.toExt0 h
def AVs.ext{x:ad}{v:List V}(h:AVs K ρ H x v)(e:Ext ρ ρ' H H'):AVs K ρ' H' x v:=AVs.kM e.toExt0 h
theorem AVs.length:∀{xs:ad}{vs:List V},AVs K ρ H xs vs->xs.length=vs.length
 | _,_,.nil=>rfl
 | _,_,.cons _ t=>dM (·+1) (AVs.length t)
theorem AVs.append:∀{xs ys:ad}{vs ws:List V},AVs K ρ H xs vs->AVs K ρ H ys ws->AVs K ρ H (xs++ys) (vs++ws)
 | _,_,_,_,.nil,s=>s
 | _,_,_,_,.cons h t,s=>.cons h (AVs.append t s)
theorem AVs.take:∀{xs:ad}{vs:List V}(n:Nat),AVs K ρ H xs vs->AVs K ρ H (xs.take n) (vs.take n)
 | _,_,0,_=>.nil
 | _,_,_+1,.nil=>.nil
 | _,_,n+1,.cons h t=>.cons h (AVs.take n t)
theorem AVs.drop:∀{xs:ad}{vs:List V}(n:Nat),AVs K ρ H xs vs->AVs K ρ H (xs.drop n) (vs.drop n)
 | _,_,0,r=>r
 | _,_,_+1,.nil=>.nil
 | _,_,n+1,.cons _ t=>AVs.drop n t
theorem AVs.reverse:∀{xs:ad}{vs:List V},AVs K ρ H xs vs->AVs K ρ H xs.reverse vs.reverse
 | _,_,.nil=>.nil
 | _,_,.cons h t=>by rw[dW,dW];exact(AVs.reverse t).append (.cons h .nil)
theorem AVs.get:∀{xs:ad}{vs:List V}{i:Nat}{x:A},AVs K ρ H xs vs->xs[i]?=some x->∃v,vs[i]?=some v/\AV K ρ H x v
 | _,_,_,_,.nil,e=>by simp at e
 | _,_,0,_,.cons h _,e=>by simp at e;subst e;exact⟨_,rfl,h⟩
 | _,_,i+1,x,.cons _ t,e=>by
  obtain⟨u,h1,h2⟩:=AVs.get (i:=i) (x:=x) t (by simpa using e);exact⟨u,by simpa using h1,h2⟩
theorem AVs.set{x:A}{v:V}(h:AV K ρ H x v):∀{xs:ad}{vs:List V}(i:Nat),AVs K ρ H xs vs->AVs K ρ H (xs.set i x) (vs.set i v)
 | _,_,_,.nil=>.nil
 | _,_,0,.cons _ t=>.cons h t
 | _,_,i+1,.cons q t=>.cons q (AVs.set h i t)
def AVs.one{x:A}{v:V}(h:AV K ρ H x v):AVs K ρ H [x] [v]:=.cons h .nil
theorem AVs.eraseIdx:∀{xs:ad}{vs:List V}(i:Nat),AVs K ρ H xs vs->AVs K ρ H (xs.eraseIdx i) (vs.eraseIdx i)
 | _,_,_,.nil=>.nil
 | _,_,0,.cons _ t=>t
 | _,_,i+1,.cons q t=>.cons q (AVs.eraseIdx i t)
theorem nQ:∀(ns:ae),AVs K ρ H (ns.map .int) (ns.map .int)
 | []=>.nil
 | n::ns=>.cons (.int n) (nQ ns)
def Rel.lay{S:jd}{p:ak}(R:Rel K ρ H S)(hp:H p=none)(r:AVs K ρ H xs vs):Ext ρ (ρ++[p]) H (upd H p (.lst vs))/\Rel K (ρ++[p]) (upd H p (.lst vs)) (S++[.lst xs])/\(ρ++[p])[S.length]?=some p:=by
 have ex:Ext ρ (ρ++[p]) H (upd H p (.lst vs)):=⟨⟨fW _ _,λa u _ h=>by rw[jl (ju h hp)];exact h⟩,λa u h _=>by rw[jl (ju h hp)];exact h,λa h=>by
  rcases bh.mp h with z|z
  ·exact .inl z
  ·have e:a=p:=by simpa using z
   rw[e];exact .inr hp⟩
 have np:∀(n:Nat) (a:ak),ρ[n]?=some a->a≠p:=by
  intro n a e z;subst z;have hn:n<S.length:=by rw[<- R.len];exact(aJ.mp e).1
  have:=R.at n a S[n] e (aG hn)
  cases ho:S[n]with
  | lst xs=>rw[ho]at this;obtain⟨vs,h,_⟩:=this;rw[hp]at h;cases h
  | dct _|dki _=>rw[ho]at this;obtain⟨vs,h,_⟩:=this;rw[hp]at h;cases h
  | ins _ _=>rw[ho]at this;obtain⟨_,_,h⟩:=this;rw[hp]at h;cases h
 have last:(ρ++[p])[S.length]?=some p:=by rw[<- R.len];simp
 refine⟨ex,⟨by simp[R.len],?_,?_⟩,last⟩
 ·rw[cD];refine⟨R.nd,by simp,λa ha b hb e=>?_⟩;have:b=p:=by simpa using hb
  obtain⟨n,hn,e'⟩:=d7.mp ha;exact np n a (by rw[aG hn,e']) (e.trans this)
 ·intro n a o h1 h2;by_cases hn:n<S.length
  ·rw[bD (by rw[R.len];exact hn)]at h1;rw[bD hn]at h2;have:=R.at n a o h1 h2
   cases o with
   | lst ys=>obtain⟨ws,e,q⟩:=this;exact⟨ws,by rw[jl (np n a h1)];exact e,q.ext ex⟩
   | dct _|dki _=>obtain⟨ws,e,q⟩:=this;exact⟨ws,by rw[jl (np n a h1)];exact e,q.ext ex⟩
   | ins _ _=>obtain⟨oo,uu,e⟩:=this;exact⟨oo,uu,by rw[jl (np n a h1)];exact e⟩
  ·have e:n=S.length:=by
    have:=(aJ.mp h2).1;simp at this
    lia
   subst e;rw[last]at h1
   cases h1
   simp at h2;subst h2;exact⟨vs,jJ,r.ext ex⟩
def Rel.im{p:ak}(R:Rel K ρ H S)(hp:H p=none):Ext ρ ρ H (upd H p u)/\Rel K ρ (upd H p u) S:=by
 have ex:Ext ρ ρ H (upd H p u):=⟨⟨dI _,λa u _ h=>by rw[jl (ju h hp)];exact h⟩,λa u h _=>by rw[jl (ju h hp)];exact h,λ_ h=>.inl h⟩;refine⟨ex,R.len,R.nd,λn a o h1 h2=>?_⟩;have:=R.at n a o h1 h2
 cases o with
 | lst ys=>obtain⟨ws,e,q⟩:=this;exact⟨ws,by rw[jl (ju e hp)];exact e,q.ext ex⟩
 | dct _|dki _=>obtain⟨ws,e,q⟩:=this;exact⟨ws,by rw[jl (ju e hp)];exact e,q.ext ex⟩
 | ins _ _=>obtain⟨oo,uu,e⟩:=this;exact⟨oo,uu,by rw[jl (ju e hp)];exact e⟩
def Rel.put{S:jd}{n:Nat}{a:ak}(R:Rel K ρ H S)(ha:ρ[n]?=some a)(hS:S[n]?=some (.lst xs))(r:AVs K ρ H ys ws):Ext ρ ρ H (upd H a (.lst ws))/\Rel K ρ (upd H a (.lst ws)) (S.set n (.lst ys)):=by
 obtain⟨vs,e,_⟩:=R.at n a _ ha hS;have ex:Ext ρ ρ H (upd H a (.lst ws)):=⟨⟨dI _,λb u i h=>by
  have:b≠a:=by
   intro z;subst z;rw[e]at h;cases h;exact i
  rw[jl this];exact h⟩,λb u h n=>by
  rw[jl (λz=>n (by rw[z];exact aY ha))];exact h,λ_ h=>.inl h⟩
 refine⟨ex,by rw[bG];exact R.len,R.nd,λm b o h1 h2=>?_⟩;by_cases hm:m=n
 ·subst hm;rw[ha]at h1;cases h1;rw[b8 (aJ.mp hS).1]at h2
  cases h2
  exact⟨ws,jJ,r.ext ex⟩
 ·rw[bW (eL hm)]at h2;have nb:b≠a:=λz=>by
   subst z;obtain⟨l1,e1⟩:=aJ.mp ha;obtain⟨l2,e2⟩:=aJ.mp h1;exact hm ((dG R.nd).mp (e2.trans e1.symm))
  have:=R.at m b o h1 h2
  cases o with
  | lst ys=>obtain⟨ws',e',q⟩:=this;exact⟨ws',by rw[jl nb];exact e',q.ext ex⟩
  | dct _|dki _=>obtain⟨ws',e',q⟩:=this;exact⟨ws',by rw[jl nb];exact e',q.ext ex⟩
  | ins _ _=>obtain⟨oo,uu,e'⟩:=this;exact⟨oo,uu,by rw[jl nb];exact e'⟩
def Rel.lst{n:Nat}{a:ak}(R:Rel K ρ H S)(ha:ρ[n]?=some a)(hS:S[n]?=some (.lst xs)):∃vs,H a=some (.lst vs)/\AVs K ρ H xs vs:=R.at n a _ ha hS
structure SR (K:au)(ρ:ar)(H:Hp)(τ:ad)(σ:St):Prop where
 len:τ.length=σ.length
 «at»:∀(i:Nat) (a:A),τ[i]?=some a->a=.unb\/∃v,σ[i]?=some (some v)/\AV K ρ H a v
def SR.kM(s:SR K ρ H τ σ)(e:Ext0 ρ ρ' H H'):SR K ρ' H' τ σ:=⟨s.len,λi a h=>by
 rcases s.at i a h with z|⟨v,h1,h2⟩
 ·exact .inl z
 ·exact .inr ⟨v,h1,AV.kM e h2⟩⟩
def SR.ext(s:SR K ρ H τ σ)(e:Ext ρ ρ' H H'):SR K ρ' H' τ σ:=s.kM e.toExt0
def Rel.out{D:ak}(R:Rel K ρ H S)(hD:H D=some (.lst vs))(hn:D∉ρ):Ext0 ρ ρ H (upd H D (.lst ws))/\Rel K ρ (upd H D (.lst ws)) S:=by
 have ex:Ext0 ρ ρ H (upd H D (.lst ws)):=⟨dI _,λb u i h=>by
  have:b≠D:=by
   intro z;subst z;rw[hD]at h;cases h;exact i
  rw[jl this];exact h⟩
 refine⟨ex,R.len,R.nd,λn a o h1 h2=>?_⟩;have na:a≠D:=λz=>hn (by rw[<- z];exact aY h1);have:=R.at n a o h1 h2
 cases o with
 | lst ys=>obtain⟨ws',e,q⟩:=this;exact⟨ws',by rw[jl na];exact e,AVs.kM ex q⟩
 | dct _|dki _=>obtain⟨ws',e,q⟩:=this;exact⟨ws',by rw[jl na];exact e,q.kM ex⟩
 | ins _ _=>obtain⟨oo,uu,e⟩:=this;exact⟨oo,uu,by rw[jl na];exact e⟩
def Rel.take{S:jd}{D:ak}(R:Rel K ρ H S)(hD:H D=some (.lst vs))(hn:D∉ρ)(r:AVs K ρ H xs vs):Rel K (ρ++[D]) H (S++[.lst xs])/\(ρ++[D])[S.length]?=some D:=by
 have ex:Ext0 ρ (ρ++[D]) H H:=⟨fW _ _,λ_ _ _ h=>h⟩;have last:(ρ++[D])[S.length]?=some D:=by rw[<- R.len];simp
 refine⟨⟨by simp[R.len],?_,λn a o h1 h2=>?_⟩,last⟩
 ·rw[cD];refine⟨R.nd,by simp,λa ha b hb e=>?_⟩;have:b=D:=by simpa using hb
  exact hn (by rw[<- this,<- e];exact ha)
 ·by_cases hs:n<S.length
  ·rw[bD (by rw[R.len];exact hs)]at h1;rw[bD hs]at h2;have:=R.at n a o h1 h2
   cases o with
   | lst ys=>obtain⟨ws,e,q⟩:=this;exact⟨ws,e,AVs.kM ex q⟩
   | dct _|dki _=>obtain⟨ws,e,q⟩:=this;exact⟨ws,e,q.kM ex⟩
   | ins _ _=>obtain⟨oo,uu,e⟩:=this;exact⟨oo,uu,e⟩
  ·have e:n=S.length:=by
    have:=(aJ.mp h2).1;simp at this
    lia
   subst e;rw[last]at h1
   cases h1
   simp at h2;subst h2;exact⟨vs,hD,AVs.kM ex r⟩
def SR.set{τ:ad}{σ:St}{a:A}{v:V}(s:SR K ρ H τ σ)(h:AV K ρ H a v):SR K ρ H (τ.set i a) (σ.set i (some v)):=by
 refine⟨by simp[s.len],λj b e=>?_⟩;by_cases hj:j=i
 ·subst hj;have hl:j<τ.length:=by
   have:=(aJ.mp e).1;simpa using this
  rw[b8 hl]at e
  cases e
  exact .inr ⟨v,b8 (by rw[<- s.len];exact hl),h⟩
 ·rw[bW (eL hj)]at e;rw[bW (eL hj)];exact s.at j b e
end
end Am
namespace Am
open PySem PySem.Spec PyProof.Rows L2
abbrev XE (X:Cx)(ρ:ar)(H:Hp):Str->jd->Prop:=λc S'=>∀(C:ak) (ρ':ar) (H':Hp),UN X.K c C->Ext ρ ρ' H H'->Rel X.K ρ' H' S'->EX X (.ref C) none H'
def XE.ext{X:Cx}{H H':Hp}{c:Str}(h:XE X ρ H c S)(e:Ext ρ ρ' H H'):XE X ρ' H' c S:=λC ρ2 H2 n e2=>h C ρ2 H2 n (e.trans e2)
abbrev vR (X:Cx)(ρ:ar)(H:Hp)(Q:VK):A->jd->Prop:=λa S'=>∀ρ' H' v,Ext ρ ρ' H H'->Rel X.K ρ' H' S'->AV X.K ρ' H' a v->Q v H'
abbrev SW (X:Cx)(ρ:ar)(H:Hp)(Q:Bool->Hp->Prop):Bool->jd->Prop:=λb S'=>∀ρ' H',Ext ρ ρ' H H'->Rel X.K ρ' H' S'->Q b H'
abbrev VR (X:Cx)(ρ:ar)(H:Hp)(Q:List V->Hp->Prop):ad->jd->Prop:=λas S'=>∀ρ' H' vs,Ext ρ ρ' H H'->Rel X.K ρ' H' S'->AVs X.K ρ' H' as vs->Q vs H'
def vR.ext{X:Cx}{H H':Hp}{Q:VK}{a:A}(h:vR X ρ H Q a S)(e:Ext ρ ρ' H H'):vR X ρ' H' Q a S:=λρ2 H2 v e2=>h ρ2 H2 v (e.trans e2)
def SW.ext{X:Cx}{H H':Hp}{Q:Bool->Hp->Prop}{a:Bool}(h:SW X ρ H Q a S)(e:Ext ρ ρ' H H'):SW X ρ' H' Q a S:=λρ2 H2 e2=>h ρ2 H2 (e.trans e2)
def jb{α:Type}{X:Cx}{H H':Hp}{r:R α}{P P':α->jd->Prop}(h:r.post P (XE X ρ H))(e:Ext ρ ρ' H H')(hp:∀a S,P a S->P' a S):r.post P' (XE X ρ' H'):=F0 h hp λ_ _ z=>z.ext e
abbrev tE (X:Cx)(c:Ex):TE:=λσ H Q=>∃ρ S τ,Rel X.K ρ H S/\SR X.K ρ H τ σ/\(c τ S).post (vR X ρ H Q) (XE X ρ H)
abbrev tT (X:Cx)(c:Te):TT:=λσ H Q=>∃ρ S τ,Rel X.K ρ H S/\SR X.K ρ H τ σ/\(c τ S).post (SW X ρ H Q) (XE X ρ H)
abbrev tL (X:Cx)(c:pO):TA:=λσ H Q=>∃ρ S τ,Rel X.K ρ H S/\SR X.K ρ H τ σ/\(c τ S).post (VR X ρ H Q) (XE X ρ H)
abbrev AE (X:Cx)(e:aE)(c:Ex):Prop:=PE X e (tE X c)
abbrev AT (X:Cx)(e:aE)(c:Te):Prop:=PT X e (tT X c)
abbrev AW (X:Cx)(e:aE)(c:Te):Prop:=PW X e (tT X c)
abbrev AL (X:Cx)(es:List aE)(c:pO):Prop:=PA X es (tL X c)
def PE.imp{X:Cx}{e:aE}{t t':TE}(h:PE X e t)(i:∀σ H Q,t' σ H Q->t σ H Q):PE X e t':=λpins s σ H Q I q=>h pins s σ H Q I (i σ H Q q)
def PT.imp{X:Cx}{e:aE}{t t':TT}(h:PT X e t)(i:∀σ H Q,t' σ H Q->t σ H Q):PT X e t':=λpins s σ H Q I q=>h pins s σ H Q I (i σ H Q q)
def PW.imp{X:Cx}{e:aE}{t t':TT}(h:PW X e t)(i:∀σ H Q,t' σ H Q->t σ H Q):PW X e t':=λw pins s σ H Q I q=>h w pins s σ H Q I (i σ H Q q)
def PA.imp{X:Cx}{e:List aE}{t t':TA}(h:PA X e t)(i:∀σ H Q,t' σ H Q->t σ H Q):PA X e t':=λp pins s σ H Q I q=>h p pins s σ H Q I (i σ H Q q)
def AW.at{X:Cx}{e:aE}{c:Te}(h:AW X e c):AT X e c:=h _
abbrev A.ni:A->Bool
 | .unb=>true
 | _=>false
abbrev i7 (i:Nat):Ex:=λτ S=>if (τ.getD i .unb).ni then .no else .ok (τ.getD i .unb) S
abbrev eC (a:A):Ex:=λ_ S=>.ok a S
section
variable {X:Cx}{pos:Pos}{a b:aE}
def i6(i:Nat){x:Str}(hN:X.N[i]?=some x:=by rfl)(hv:QK X.env.scope x:=by first|exact Or.inl rfl|exact Or.inr (Or.inl rfl)|exact Or.inr (Or.inr rfl))(hd:(x == ("__debug__" : Str))=false:=by decide)
  (hcd:(x == ("__classdict__" : Str))=false:=by decide):AE X (.Name x pos) (i7 i):=PE.imp (HE hN hv hd hcd) λσ H Q h9=>by
 room;unfold i7 at h
 cases hi:τ[i]? with
 | none=>
  rw[aI,hi]at h;exact h.elim
 | some x=>
  rw[aI,hi]at h
  rcases r.at i x hi with z|⟨v,e,q⟩
  ·subst z;exact h.elim
  ·refine⟨v,e,?_⟩
   cases x<;>first|(exact h ρ H v .refl R q)|exact h.elim
def ja{i:Int}{j pos}:AE X (.Constant (.int i) j pos) (eC (.int i)):=PE.imp B_ λσ H Q ⟨ρ,S,τ,R,r,h⟩=>h ρ H _ .refl R (.int i)
def C_{j pos}:AE X (.Constant (.bool i) j pos) (eC (.bl i)):=PE.imp QS λσ H Q ⟨ρ,S,τ,R,r,h⟩=>h ρ H _ .refl R (.bl i)
def zy{j pos}:AE X (.Constant .none j pos) (eC .non):=PE.imp Pb λσ H Q ⟨ρ,S,τ,R,r,h⟩=>h ρ H _ .refl R .non
def s_{x:Str}{i:Int}{t:Tok}(hm:X.mg x=some (.int i t))(hg:Gl X x:=by rfl)(hd:(x == ("__debug__" : Str))=false:=by decide):AE X (.Name x pos) (eC (.int i)):=
 PE.imp (Mx (v:=.int i) hg hm ⟨t,rfl⟩ hd) λσ H Q ⟨ρ,S,τ,R,r,h⟩=>h ρ H _ .refl R (.int i)
abbrev jc (f:A->A->jd->R A)(ca cb:Ex):Ex:=λτ S=>(ca τ S).bind λa S1=>(cb τ S1).bind λb S2=>f a b S2
abbrev r2 (X:Cx)(f:A->A->jd->R A):R2:=λx y H Q=>∃ρ S a b,Rel X.K ρ H S/\AV X.K ρ H a x/\AV X.K ρ H b y/\(f a b S).post (vR X ρ H Q) (XE X ρ H)
abbrev r1 (X:Cx)(f:A->jd->R A):V->Hp->VK->Prop:=λx H Q=>∃ρ S a,Rel X.K ρ H S/\AV X.K ρ H a x/\(f a S).post (vR X ρ H Q) (XE X ρ H)
abbrev rN (X:Cx)(f:ad->jd->R A):List V->Hp->VK->Prop:=λxs H Q=>∃ρ S as,Rel X.K ρ H S/\AVs X.K ρ H as xs/\(f as S).post (vR X ρ H Q) (XE X ρ H)
def nq.imp{f:af->af->Sem af}{r r':R2}(h:nq X f r)(i:∀x y H Q,r' x y H Q->r x y H Q):nq X f r':=λpins s σ H x y v u Q I rx ry q=>h pins s σ H x y v u Q I rx ry (i _ _ _ _ q)
def jE.imp{f:af}{r r':List V->Hp->VK->Prop}(h:jE X f r)(i:∀x H Q,r' x H Q->r x H Q):jE X f r':=λpins s σ H x v Q I rx q=>h pins s σ H x v Q I rx (i _ _ _ q)
def sA{f:A->A->jd->R A}{ca cb:Ex}{H:Hp}{Q:VK}(h:tE X (jc f ca cb) σ H Q):Q6 (r2 X f) (tE X ca) (tE X cb) σ H Q:=by
 kpc_g;refine⟨ρ,S,τ,R,r,jb (jh h) .refl λa S1 h1 ρ1 H1 x e1 R1 v1=>⟨ρ1,S1,τ,R1,r.ext e1,jb (jh h1) e1 λb S2 h2 ρ2 H2 y e2 R2 v2=>?_⟩⟩;exact⟨ρ2,S2,a,b,R2,v1.ext e2,v2,jb h2 (e1.trans e2) λc S3 h3=>h3.ext (e1.trans e2)⟩
def jm{f:A->A->jd->R A}{ca cb:Ex}(ho:nq X (binaryOp op) (r2 X f))(ha:AE X a ca)(hb:AE X b cb):AE X (.BinOp a op b pos) (jc f ca cb):=
 PE.imp (SD ho ha hb) λσ H Q h=>sA h
def yU{op:CmpOp}{f:A->A->jd->R A}{ca cb:Ex}(ho:nq X (compareOp op) (r2 X f))(ha:AE X a ca)(hb:AE X b cb)(hm:behindInMarks op b=false:=by first|exact Kl _|with_unfolding_all rfl):AE X (.Compare a [op] [b] pos) (jc f ca cb):=
 PE.imp (K5 ho ha hb hm) λσ H Q h=>sA h
abbrev A.P8:A->jd->bd
 | .non,_=>some false
 | .bl b,_=>some b
 | .int i,_=>some (i != 0)
 | .str x,_=>if x.length<=sizeLine then some ((x.length:Int) != 0)else none
 | .tup xs,_=>some (!xs.isEmpty)
 | .frz xs,_=>some (!xs.isEmpty)
 | .ref n,S=>(i_ S n).map λxs=>!xs.isEmpty
 | _,_=>none
abbrev sU (c:Ex):Te:=λτ S=>(c τ S).bind λa S1=>opt (a.P8 S1) λb=>.ok b S1
abbrev nG (c:Ex):Te:=λτ S=>(c τ S).bind λa S1=>match a with
 | .bl b=>.ok b S1
 | _=>.no
def CV{K:au}{H:Hp}{b:Bool}{v:V}(h:AV K ρ H (.bl b) v):v=.bl b:=by cases h;rfl
def jR{op:CmpOp}{f:A->A->jd->R A}{ca cb:Ex}(ho:nq X (compareOp op) (r2 X f))(ha:AE X a ca)(hb:AE X b cb)(hm:behindInMarks op b=false:=by first|exact Kl _|with_unfolding_all rfl):AT X (.Compare a [op] [b] pos) (nG (jc f ca cb)):=
 PT.imp (KQ ho ha hb hm) λσ H Q h9=>by
  room;refine sA ⟨ρ,S,τ,R,r,jb (jh h) .refl λc S1 h1 ρ1 H1 x e1 R1 v1=>?_⟩
  cases c with
  | bl k=>cases CV v1;exact⟨k,rfl,h1 ρ1 H1 e1 R1⟩
  | _=>exact h1.elim
def O_{K:au}{H:Hp}{x:A}{v:V}{b:Bool}(R:Rel K ρ H S)(h:AV K ρ H x v)(e:x.P8 S=some b):NL K v H b:=by
 have emp:∀{xs:ad} {vs:List V},AVs K ρ H xs vs->(!xs.isEmpty)=!vs.isEmpty:=λr=>by cases r<;>rfl
 cases h with
 | non=>exact(aR e).symm
 | bl b=>exact(aR e).symm
 | int i=>exact(aR e).symm
 | str x=>
  by_cases hx:x.length<=sizeLine
  ·exact⟨hx,by have:=(aN hx).symm.trans e;exact(aR this).symm⟩
  ·have:=(aM hx).symm.trans e;cases this
 | tup h r=>exact .inr (.inl ⟨_,mz.of h,by rw[<- emp r];exact(aR e).symm⟩)
 | frz h r=>exact .inl ⟨_,h.II,by rw[<- emp r];exact(aR e).symm⟩
 | rng h=>cases e
 | ty n=>cases e
 | exn n h x=>cases e
 | ktu h r=>cases e
 | @ref a n h=>
  have e:(i_ S n).map (λxs=>!xs.isEmpty)=some b:=e;obtain⟨xs,hn,e⟩:=br.mp e;obtain⟨vs,h1,h2⟩:=R.lst h (jn hn);exact .inl ⟨vs,mw.of h1,by rw[<- emp h2];exact e.symm⟩
def t6{ca:Ex}(ha:AE X a ca)(he:∀whole,isTrue a X.env whole=(do let v <- whole;standAt a.pos;holding [v] (truthy v)):=by intro _;rfl):AT X a (sU ca):=
 PT.imp (I0 ha he) λσ H Q ⟨ρ,S,τ,R,r,h⟩=>⟨ρ,S,τ,R,r,jb (jh h) .refl λc S1 h1 ρ1 H1 x e1 R1 v1=>by
  obtain⟨b,hb,h1⟩:=je h1;exact⟨b,O_ R1 v1 hb,h1 ρ1 H1 e1 R1⟩⟩
abbrev P6 (c:Te):Te:=λτ S=>(c τ S).bind λb S1=>.ok (!b) S1
abbrev AK (c d:Te):Te:=λτ S=>(c τ S).bind λb S1=>match b with|true=>d τ S1|false=>.ok false S1
abbrev F_ (c d:Te):Te:=λτ S=>(c τ S).bind λb S1=>match b with|true=>.ok true S1|false=>d τ S1
def Oq{c:Te}(h:AT X a c):AT X (.UnaryOp .Not a pos) (P6 c):=PT.imp (NQ h) λσ H Q ⟨ρ,S,τ,R,r,h⟩=>⟨ρ,S,τ,R,r,jb (jh h) .refl λb S1 h1=>h1⟩
def and_imp{c d:Te}{H:Hp}{Q:Bool->Hp->Prop}(h:tT X (AK c d) σ H Q):Rw (tT X c) (tT X d) σ H Q:=by
 kpc_g;refine⟨ρ,S,τ,R,r,jb (jh h) .refl λb S1 h1 ρ1 H1 e1 R1=>?_⟩
 cases b with
 | true=>
  rw[aN rfl];exact⟨ρ1,S1,τ,R1,r.ext e1,jb h1 e1 λ_ _ z=>z.ext e1⟩
 | false=>
  rw[aM bq];exact h1 ρ1 H1 e1 R1
def or_imp{c d:Te}{H:Hp}{Q:Bool->Hp->Prop}(h:tT X (F_ c d) σ H Q):Vv (tT X c) (tT X d) σ H Q:=by
 kpc_g;refine⟨ρ,S,τ,R,r,jb (jh h) .refl λb S1 h1 ρ1 H1 e1 R1=>?_⟩
 cases b with
 | false=>
  rw[aM bq];exact⟨ρ1,S1,τ,R1,r.ext e1,jb h1 e1 λ_ _ z=>z.ext e1⟩
 | true=>
  rw[aN rfl];exact h1 ρ1 H1 e1 R1
variable {rest:List aE}
def Co{c:Te}(h:AT X a c):AW X (.BoolOp .And [a] pos) c:=L5 h
def Gs{c:Te}(h:AT X a c):AW X (.BoolOp .Or [a] pos) c:=Qm h
def Ij{c d:Te}(h:AT X a c)(h2:AW X (.BoolOp .And (b::rest) pos) d):AW X (.BoolOp .And (a::b::rest) pos) (AK c d):=PW.imp (ON h h2) λ_ _ _ q=>and_imp q
def Il{c d:Te}(h:AT X a c)(h2:AW X (.BoolOp .Or (b::rest) pos) d):AW X (.BoolOp .Or (a::b::rest) pos) (F_ c d):=PW.imp (RN h h2) λ_ _ _ q=>or_imp q
abbrev SJ (c d:Ex):Ex:=λτ S=>(c τ S).bind λa S1=>match a with | .bl true=>d τ S1 | .bl false=>.ok (.bl false) S1|_=>.no
abbrev U9 (c d:Ex):Ex:=λτ S=>(c τ S).bind λa S1=>match a with | .bl true=>.ok (.bl true) S1 | .bl false=>d τ S1|_=>.no
abbrev Qg (c:Ex):Ex:=λτ S=>(c τ S).bind λa S1=>match a with | .bl b=>.ok (.bl !b) S1|_=>.no
def Qj{c:Ex}(h:AE X a c):AE X (.UnaryOp .Not a pos) (Qg c):=PE.imp (Py h) λσ H Q h9=>by
 room;refine⟨ρ,S,τ,R,r,jb (jh h) .refl λb S1 h1 ρ1 H1 x e1 R1 v1=>?_⟩
 cases b with
 | bl k=>
  cases CV v1
  exact⟨k,rfl,h1 ρ1 H1 _ e1 R1 (.bl _)⟩
 | _=>exact h1.elim
abbrev VG (t:Te)(c d:Ex):Ex:=λτ S=>(t τ S).bind λb S1=>match b with|true=>c τ S1|false=>d τ S1
abbrev jj:pO:=λ_ S=>.ok [] S
abbrev i8 (c:Ex)(d:pO):pO:=λτ S=>(c τ S).bind λa S1=>(d τ S1).bind λas S2=>.ok (a::as) S2
def jk:AL X [] jj:=PA.imp vM λσ H Q ⟨ρ,S,τ,R,r,h⟩=>h ρ H _ .refl R .nil
def i9{e:aE}{c:Ex}{d:pO}(ha:AE X e c)(hr:AL X es d)(hs:starEach (e::es) X.env=(false,eval e X.env)::starEach es X.env:=by rfl):AL X (e::es) (i8 c d):=
 PA.imp (qP ha hr hs) λσ H Q h9=>by
  room;refine⟨ρ,S,τ,R,r,jb (jh h) .refl λa S1 h1 ρ1 H1 x e1 R1 v1=>⟨ρ1,S1,τ,R1,r.ext e1,jb (jh h1) e1 λas S2 h2 ρ2 H2 xs e2 R2 v2=>?_⟩⟩;exact h2 ρ2 H2 _ (e1.trans e2) R2 (.cons (v1.ext e2) v2)
abbrev rJ (d:pO):Ex:=λτ S=>(d τ S).bind λas S1=>gd (as.length<=sizeLine) (.ok (.tup as) S1)
abbrev newL (as:ad)(S:jd):R A:=gd (as.length<=sizeLine) (.ok (.ref S.length) (S++[.lst as]))
abbrev rz (d:pO):Ex:=λτ S=>(d τ S).bind λas S1=>newL as S1
def qa{H H0:Hp}{Q:VK}(R:Rel X.K ρ H S)(r:AVs X.K ρ H as vs)(e:Ext ρ0 ρ H0 H)(h:vR X ρ0 H0 Q (.tup as) S):∀p,H p=none->Q (.ref p) (upd H p (.tup vs)):=λp hp=>by
 obtain⟨ex,R'⟩:=R.im (u:=.tup vs) hp;exact h ρ _ _ (e.trans ex) R' (.tup jJ (r.ext ex))
def lA{H H0:Hp}{S:jd}{Q:VK}(R:Rel X.K ρ H S)(r:AVs X.K ρ H as vs)(e:Ext ρ0 ρ H0 H)(h:vR X ρ0 H0 Q (.ref S.length) (S++[.lst as])):∀p,H p=none->Q (.ref p) (upd H p (.lst vs)):=λp hp=>by
 obtain⟨ex,R',g⟩:=R.lay hp r;exact h _ _ _ (e.trans ex) R' (.ref g)
def Mp{H H0:Hp}{vs:List V}{Q:VK}(R:Rel X.K ρ H S)(r:AVs X.K ρ H as vs)(e:Ext ρ0 ρ H0 H)(h:(newL as S).post (vR X ρ0 H0 Q) (XE X ρ0 H0)):vs.length<=sizeLine/\∀p,H p=none->Q (.ref p) (upd H p (.lst vs)):=by
 obtain⟨hl,h⟩:=jv h;exact⟨by rw[<- r.length];exact hl,lA R r e h⟩
def rF{d:pO}{x1}(h:AL X es d):AE X (.Tuple es x1 pos) (rJ d):=PE.imp (OH h) λσ H Q h9=>by
 room;refine⟨ρ,S,τ,R,r,jb (jh h) .refl λas S1 h1 ρ1 H1 xs e1 R1 v1=>?_⟩;obtain⟨hl,h1⟩:=jv h1;exact⟨by rw[<- v1.length];exact hl,qa R1 v1 e1 h1⟩
def mQ{d:pO}(h:AL X es d):AE X (.List es pos) (rz d):=PE.imp (N3 h) λσ H Q ⟨ρ,S,τ,R,r,h⟩=>
 ⟨ρ,S,τ,R,r,jb (jh h) .refl λas S1 h1 ρ1 H1 xs e1 R1 v1=>Mp R1 v1 e1 h1⟩
end
section
variable {X:Cx}{pos:Pos}{a b:aE}
abbrev aSub (a b:A)(S:jd):R A:=match a,b with
 | .int i,.int j=>.ok (.int (i-j)) S
 | _,_=>.no
def kZ:nq X (binaryOp .Sub) (r2 X aSub):=nq.imp NW λx y H Q h9=>by
 z_go
 cases va<;>first|exact h.elim|(cases vb<;>first|exact h.elim|exact⟨_,_,rfl,rfl,h _ _ _ .refl R (.int _)⟩)
abbrev zT (i j:Int):Bool:=(decide (-(2 ^ 64)<i) && decide (i<2 ^ 64)) || (decide (-(2 ^ 64)<j) && decide (j<2 ^ 64))
def mulOk_of{i j:Int}(h:zT i j=true):Lp i j:=by
 unfold zT at h;dsimp[iQ,c6,iB]at h;exact h
abbrev sE (a b:A)(S:jd):R A:=match a,b with
 | .int i,.int j=>gd (zT i j) (.ok (.int (i * j)) S)
 | .ref n,.int k=>opt (i_ S n) λxs=>gd (-(2 ^ 63)<=k/\k<2 ^ 63/\xs.length * k.toNat<=sizeLine) (.ok (.ref S.length) (S++[.lst (List.replicate k.toNat xs).flatten]))
 | _,_=>.no
theorem AVs.rep{K:au}{H:Hp}(r:AVs K ρ H xs vs):∀k:Nat,AVs K ρ H (List.replicate k xs).flatten (List.replicate k vs).flatten
 | 0=>.nil
 | k+1=>by rw[cU,cU,dj,dj];exact r.append (AVs.rep r k)
def wC:nq X (binaryOp .Mult) (r2 X sE):=λpins s σ H x y v u Q I rx ry h9=>by
 z_go
 cases va with
 | int i=>
  cases vb with
  | int j=>
   obtain⟨hm,h⟩:=jv h;exact Pn pins s σ H _ _ v u Q I rx ry ⟨i,j,rfl,rfl,mulOk_of hm,h _ _ _ .refl R (.int _)⟩
  | _=>exact h.elim
 | @ref p n hp=>
  cases vb with
  | int k=>
   kt_k;obtain⟨hc,h⟩:=jv h;obtain⟨vs,h1,h2⟩:=R.lst hp (jn hn);exact PF pins s σ H _ _ v u Q I rx ry ⟨p,k,vs,rfl,rfl,h1,hc.1,hc.2.1,by rw[<- h2.length];exact hc.2.2,lA R (h2.rep _) .refl h⟩
  | _=>exact h.elim
 | _=>exact h.elim
abbrev Dk (a b:A)(S:jd):R A:=match a,b with
 | .int i,.int j=>gd (0<j/\j<18446744073709551616) (.ok (.int (i / j)) S)
 | _,_=>.no
def Ib:nq X (binaryOp .FloorDiv) (r2 X Dk):=nq.imp Ge λx y H Q h9=>by
 z_go
 cases va<;>first|exact h.elim|(cases vb<;>first|exact h.elim|exact⟨_,_,rfl,rfl,(jv h).1,(jv h).2 _ _ _ .refl R (.int _)⟩)
abbrev zf (a b:A)(S:jd):R A:=match a,b with
 | .int i,.int j=>gd (0<j) (.ok (.int (i % j)) S)
 | _,_=>.no
def xW:nq X (binaryOp .Mod) (r2 X zf):=nq.imp NG λx y H Q h9=>by
 z_go
 cases va<;>first|exact h.elim|(cases vb<;>first|exact h.elim|exact⟨_,_,rfl,rfl,(jv h).1,(jv h).2 _ _ _ .refl R (.int _)⟩)
abbrev PL (a b:A)(S:jd):R A:=match a,b with
 | .int i,.int j=>gd (0<=j/\j<=1000000/\i.natAbs<2 ^ 64) (.ok (.int (i ^ j.toNat)) S)
 | _,_=>.no
def Rm:nq X (binaryOp .Pow) (r2 X PL):=nq.imp Qs λx y H Q h9=>by
 z_go
 cases va<;>first|exact h.elim|(cases vb<;>first|exact h.elim|exact⟨_,_,rfl,rfl,(jv h).1,(jv h).2 _ _ _ .refl R (.int _)⟩)
abbrev kW (a b:A)(S:jd):R A:=match a,b with
 | .int i,.int j=>.ok (.int (i+j)) S
 | .tup xs,.tup ys=>gd (xs.length+ys.length<=sizeLine) (.ok (.tup (xs++ys)) S)
 | .str x,.str y=>gd (x.length+y.length<=sizeLine) (.ok (.str (x++y)) S)
 | .ref n,.ref m=>opt (i_ S n) λxs=>opt (i_ S m) λys=>gd (xs.length+ys.length<=sizeLine) (.ok (.ref S.length) (S++[.lst (xs++ys)]))
 | _,_=>.no
def AVs.nil_inv{K:au}{H:Hp}(r:AVs K ρ H xs vs):xs=[] ↔ vs=[]:=by cases r<;>simp
def kC:nq X (binaryOp .Add) (r2 X kW):=λpins s σ H x y v u Q I rx ry h9=>by
 z_go
 cases va with
 | int i=>
  cases vb with
  | int j=>exact NH pins s σ H _ _ v u Q I rx ry ⟨i,j,rfl,rfl,h _ _ _ .refl R (.int _)⟩
  | _=>exact h.elim
 | str x=>
  cases vb with
  | str y=>
   obtain⟨hc,h⟩:=jv h;exact B5 pins s σ H _ _ v u Q I rx ry ⟨x,y,rfl,rfl,hc,h _ _ _ .refl R (.str _)⟩
  | _=>exact h.elim
 | @tup p xs vs h1 r1=>
  cases vb with
  | @tup q ys ws h2 r2=>
   obtain⟨hc,h⟩:=jv h;by_cases hv:vs=[]
   ·have hx:=r1.nil_inv.mpr hv;subst hv hx;exact Gr pins s σ H _ _ v u Q I rx ry ⟨p,q,ws,rfl,rfl,mz.of h1,mz.of h2,h _ _ _ .refl R (.tup h2 r2)⟩
   ·refine L6 pins s σ H _ _ v u Q I rx ry ⟨p,q,vs,ws,rfl,rfl,mz.of h1,mz.of h2,hv,by rw[<- r1.length,<- r2.length];exact hc,λe=>?_,λ_=>qa R (r1.append r2) .refl h⟩;have hy:=r2.nil_inv.mpr e;subst hy;rw[cA]at h;exact h _ _ _ .refl R (.tup h1 r1)
  | _=>exact h.elim
 | @ref p n hp=>
  cases vb with
  | @ref q m hq=>
   kt_k;obtain⟨ys,hm,h⟩:=je h;obtain⟨hc,h⟩:=jv h;obtain⟨vs,h1,h2⟩:=R.lst hp (jn hn);obtain⟨ws,h3,h4⟩:=R.lst hq (jn hm);exact NK pins s σ H _ _ v u Q I rx ry ⟨p,q,vs,ws,rfl,rfl,h1,h3,by rw[<- h2.length,<- h4.length];exact hc,lA R (h2.append h4) .refl h⟩
  | _=>exact h.elim
 | _=>exact h.elim
abbrev A.ints:ad->Option (ae)
 | []=>some []
 | .int i::xs=>(A.ints xs).map (i::·)
 | _=>none
theorem pQ{K:au}{H:Hp}:∀{xs:ad}{vs:List V}{bs:ae},AVs K ρ H xs vs->A.ints xs=some bs->vs=bs.map V.int
 | _,_,_,.nil,e=>by cases e;rfl
 | _,_,_,.cons (x:=.int b) h t,e=>by
  obtain⟨cs,e1,rfl⟩:=br.mp e
  cases h
  rw[pQ t e1];rfl
 | _,_,_,.cons (x:=.unb) h t,e=>nomatch e
 | _,_,_,.cons (x:=.non) h t,e=>nomatch e
 | _,_,_,.cons (x:=.bl _) h t,e=>nomatch e
 | _,_,_,.cons (x:=.str _) h t,e=>nomatch e
 | _,_,_,.cons (x:=.tup _) h t,e=>nomatch e
 | _,_,_,.cons (x:=.frz _) h t,e=>nomatch e
 | _,_,_,.cons (x:=.rng _ _) h t,e=>nomatch e
 | _,_,_,.cons (x:=.ref _) h t,e=>nomatch e
 | _,_,_,.cons (x:=.exn _) h t,e=>nomatch e
 | _,_,_,.cons (x:=.ty _) h t,e=>nomatch e
abbrev EW (a b:A)(S:jd):R A:=match a,b with
 | .int i,.int j=>.ok (.bl (decide (i<j))) S
 | _,_=>.no
def FE(hu:X.A.units+64<cLine):nq X (compareOp .Lt) (r2 X EW):=λpins s σ H x y v u Q I rx ry h9=>by
 z_go
 cases va with
 | int i=>
  cases vb with
  | int j=>exact Ra pins s σ H _ _ v u Q I rx ry ⟨i,j,rfl,rfl,h _ _ _ .refl R (.bl _)⟩
  | _=>exact h.elim
 | _=>exact h.elim
abbrev SX (a b:A)(S:jd):R A:=match a,b with
 | .int i,.int j=>.ok (.bl (decide (i<=j))) S
 | _,_=>.no
def Rc:nq X (compareOp .LtE) (r2 X SX):=nq.imp RI λx y H Q h9=>by
 z_go
 cases va<;>first|exact h.elim|(cases vb<;>first|exact h.elim|exact⟨_,_,rfl,rfl,h _ _ _ .refl R (.bl _)⟩)
abbrev yq (a b:A)(S:jd):R A:=match a,b with
 | .int i,.int j=>.ok (.bl (decide (j<i))) S
 | _,_=>.no
def wO(hu:X.A.units+64<cLine):nq X (compareOp .Gt) (r2 X yq):=λpins s σ H x y v u Q I rx ry h9=>by
 z_go
 cases va with
 | int i=>
  cases vb with
  | int j=>exact Rj pins s σ H _ _ v u Q I rx ry ⟨i,j,rfl,rfl,h _ _ _ .refl R (.bl _)⟩
  | _=>exact h.elim
 | _=>exact h.elim
abbrev V0 (a b:A)(S:jd):R A:=match a,b with
 | .int i,.int j=>.ok (.bl (decide (j<=i))) S
 | _,_=>.no
abbrev zo (neg:Bool)(a b:A)(S:jd):R A:=match a,b with
 | .bl i,.bl j=>.ok (.bl (if neg then i != j else i == j)) S
 | .non,.non=>.ok (.bl (!neg)) S
 | .unb,.non=>.no
 | .exn _,.non=>.no
 | _,.non=>.ok (.bl neg) S
 | _,_=>.no
def OC{n:Bool}{a b:A}(h1:b≠.non)(h2:∀j,b≠.bl j):zo n a b S=.no:=by
 unfold zo;split<;>first|rfl|exact absurd rfl h1|exact absurd rfl (h2 _)
def N5{n:Bool}{a b:A}{F:A->jd->Prop}{G:Str->jd->Prop}(h:(zo n a b S).post F G)(h1:b≠.non)(h2:∀j,b≠.bl j):False:=by
 rw[OC h1 h2]at h;exact h
def Sj:nq X (compareOp .Is) (r2 X (zo false)):=λpins s σ H x y v u Q I rx ry h9=>by
 z_go
 cases vb with
 | non=>
  refine NV pins s σ H _ _ v u Q I rx ry ⟨rfl,?_⟩
  cases va<;>first|exact h _ _ _ .refl R (.bl _)|exact h.elim
 | bl j=>
  cases va with
  | bl i=>exact NI pins s σ H _ _ v u Q I rx ry ⟨i,j,rfl,rfl,h _ _ _ .refl R (.bl _)⟩
  | _=>exact h.elim
 | _=>
  exact(N5 h (λz=>nomatch z) nofun).elim
abbrev Bj (f:A->jd->R A)(c:Ex):Ex:=λτ S=>(c τ S).bind λa S1=>f a S1
abbrev zF (a:A)(S:jd):R A:=match a with
 | .int i=>.ok (.int (-i)) S
 | _=>.no
def Q0:SY X (unaryOp .USub) (r1 X zF):=λpins s σ H x v Q I rx h9=>by
 obtain⟨ρ,S,a,R,va,h⟩:=h9
 cases va with
 | int i=>exact BJ pins s σ H _ v Q I rx ⟨i,rfl,h _ _ _ .refl R (.int _)⟩
 | _=>exact h.elim
def Ol{f:A->jd->R A}{c:Ex}{H:Hp}{Q:VK}(h:tE X (Bj f c) σ H Q):Vo (r1 X f) (tE X c) σ H Q:=by
 kpc_g;exact⟨ρ,S,τ,R,r,jb (jh h) .refl λa S1 h1 ρ1 H1 x e1 R1 v1=>⟨ρ1,S1,a,R1,v1,jb h1 e1 λc S3 h3=>h3.ext e1⟩⟩
def Ci{c:Ex}(h:AE X a c):AE X (.UnaryOp .USub a pos) (Bj zF c):=PE.imp (Ie Q0 h) λ_ _ _ q=>Ol q
abbrev lC (a b:A)(S:jd):R A:=match a,b with
 | .tup xs,.int i=>opt (mC xs i) λx=>.ok x S
 | .frz xs,.int i=>opt (mC xs i) λx=>.ok x S
 | .ref n,.int i=>opt (i_ S n) λxs=>opt (mC xs i) λx=>.ok x S
 | .str z,.int i=>gd (z.length<=sizeLine) (opt (mC z.cps.toList i) λc=>.ok (.str ⟨#[c]⟩) S)
 | _,_=>.no
def AVs.mC{K:au}{H:Hp}{i:Int}{x:A}(r:AVs K ρ H xs vs)(h:L2.mC xs i=some x):∃v,L2.mC vs i=some v/\AV K ρ H x v:=by
 unfold L2.mC at h ⊢;rw[<- r.length]
 cases hj:vh xs.length i with
 | none=>rw[hj]at h;cases h
 | some j=>
  rw[hj]at h;exact r.get h
def Rl:O6 X (r2 X lC):=λvalue slice pins s σ H x y v u Q I rx ry ⟨ρ,S,a,b,R,va,vb,h⟩ hs=>by
 cases va with
 | @tup p xs vs h1 r1=>
  cases vb with
  | int i=>
   obtain⟨x,hx,h⟩:=je h;obtain⟨z,e,q⟩:=r1.mC hx;exact Oe value slice pins s σ H _ _ v u Q I rx ry ⟨p,vs,i,z,rfl,rfl,mz.of h1,e,h _ _ _ .refl R q⟩ hs
  | _=>exact h.elim
 | @frz p xs vs h1 r1=>
  cases vb with
  | int i=>
   obtain⟨x,hx,h⟩:=je h;obtain⟨z,e,q⟩:=r1.mC hx;exact Ez value slice pins s σ H _ _ v u Q I rx ry ⟨p,vs,i,z,rfl,rfl,h1.II,e,h _ _ _ .refl R q⟩ hs
  | _=>exact h.elim
 | @ref p n hp=>
  cases vb with
  | int i=>
   kt_k;obtain⟨x,hx,h⟩:=je h;obtain⟨vs,h1,r1⟩:=R.lst hp (jn hn);obtain⟨z,e,q⟩:=r1.mC hx;exact Ez value slice pins s σ H _ _ v u Q I rx ry ⟨p,vs,i,z,rfl,rfl,mw.of h1,e,h _ _ _ .refl R q⟩ hs
  | _=>exact h.elim
 | str z=>
  cases vb with
  | int i=>
   obtain⟨hz,h⟩:=jv h;obtain⟨c,hc,h⟩:=je h;exact Qe value slice pins s σ H _ _ v u Q I rx ry ⟨z,i,c,rfl,rfl,hz,hc,h _ _ _ .refl R (.str _)⟩ hs
  | _=>exact h.elim
 | _=>exact h.elim
def jM{ca cb:Ex}(ha:AE X a ca)(hb:AE X b cb)(hs:yE b:=by exact λ_ _=>rfl):AE X (.Subscript a b pos) (jc lC ca cb):=PE.imp (MR Rl ha hb hs) λσ H Q h=>sA h
end
abbrev ug (f:A->A->bd):ad->ad->bd
 | [],[]=>some true
 | x::xs,y::ys=>(f x y).bind λp=>(ug f xs ys).map λq=>p && q
 | _,_=>some false
inductive Sh
 | non
 | bl (b:Bool)
 | int (i:Int)
 | str (x:Str)
 | tup (xs:ad)
 | lst
abbrev P9 (S:jd):A->Option Sh
 | .non=>some .non
 | .bl b=>some (.bl b)
 | .int i=>some (.int i)
 | .str x=>some (.str x)
 | .tup xs=>some (.tup xs)
 | .ref i=>(i_ S i).map λ_=>.lst
 | _=>none
abbrev L1 (f:A->A->bd):Sh->Sh->bd
 | .non,.non=>some true
 | .bl x,.bl y=>some (x == y)
 | .bl x,.int y=>some ((if x then 1 else 0) == y)
 | .int x,.bl y=>some (x == (if y then 1 else 0))
 | .int x,.int y=>some (x == y)
 | .str x,.str y=>some (x == y)
 | .tup xs,.tup ys=>ug f xs ys
 | .lst,.lst=>none
 | _,_=>some false
abbrev xw (S:jd):Nat->A->A->bd
 | 0,_,_=>none
 | n+1,a,b=>match a,b with
  | .ref i,.ref j=>(i_ S i).bind λxs=>(i_ S j).bind λys=>ug (xw S n) xs ys
  | _,_=>(P9 S a).bind λx=>(P9 S b).bind λy=>L1 (xw S n) x y
section
variable {X:Cx}{pins:bj}{σ:L2.St}{H:Hp}{s:aC}{ρ:ar}{S:jd}
inductive KdV (s:aC):Sh->af->Prop
 | non:KdV s .non .none
 | bl (b:Bool):KdV s (.bl b) (.bool b)
 | int (i:Int) (t:Tok):KdV s (.int i) (.int i t)
 | str (x:Str) (t:Tok):KdV s (.str x) (.str x t)
 | tup {p:ak} {us:ap} (xs:ad) (h:s.heap.IsTuple p us.toArray):KdV s (.tup xs) (.ref p)
 | lst {p:ak} {us:ap} (h:s.heap.IsList p us.toArray):KdV s .lst (.ref p)
def Cy{p:ak}(h:s.heap.IsTuple p us)(h':s.heap.IsList p ws):False:=by
 obtain⟨o,e,c,_⟩:=h;obtain⟨o',e',c',_⟩:=h';rw[e]at e'
 cases e'
 exact absurd (c.symm.trans c') ⋯
def C3(I:Inv X pins σ H s)(R:Rel X.K ρ H S){a:A}{x:V}(ha:AV X.K ρ H a x)(r:RelV x u)(e:P9 S a=some h):KdV s h u:=by
 cases ha with
 | non=>cases e;cases(show u=Value.none from r);exact .non
 | bl b=>cases e;cases(show u=Value.bool b from r);exact .bl b
 | int i=>cases e;obtain⟨t,rfl⟩:∃t,u=Value.int i t:=r;exact .int i t
 | str i=>cases e;obtain⟨t,rfl⟩:∃t,u=Value.str i t:=r;exact .str i t
 | tup h1 r1=>cases e;cases(show u=Value.ref _ from r);obtain⟨us,_,p,_⟩:=I.tuple (mz.of h1);exact .tup _ p
 | ref h1=>
  obtain⟨xs,e1,rfl⟩:=br.mp e
  cases(show u=Value.ref _ from r)
  obtain⟨vs,h3,r1⟩:=R.lst h1 (jn e1);obtain⟨us,_,p,_⟩:=I.list (mw.of h3);exact .lst p.isList
 | _=>cases e
abbrev Al (B:aA)(s:aC)(u v:af)(k:Bool):Prop:=SeqAt.RcAt B s u v k/\SeqAt.EqAt B s u v k/\SeqAt.RcNeAt B s u v (!k)
def RU{B:aA}(hu:B.units<cLine){f:A->A->bd}{v:af}{k:Bool}(d:KdV s h u)(d':KdV s h' v)(nt:∀xs ys,h=.tup xs->h'≠.tup ys)(e:L1 f h h'=some k):Al B s u v k:=by
 cases d with
 | non=>cases d' with
  | non=>cases e;exact⟨.none_none,.same _,.none_none⟩
  | bl b=>cases e;exact⟨.none_bool _,.none_bool _,.none_bool _⟩
  | int i t=>cases e;exact⟨.none_int _ _,.none_int _ _,.none_int _ _⟩
  | str x t=>cases e;exact⟨.none_str _ _,.none_str _ _,.none_str _ _⟩
  | tup xs p=>cases e;exact⟨.none_tuple p hu,.none_tuple p hu,.none_tuple p hu⟩
  | lst p=>cases e;exact⟨.none_list p hu,.none_list p hu,.none_list p hu⟩
 | bl c=>cases d' with
  | non=>cases e;exact⟨.bool_none _,.bool_none _,.bool_none _⟩
  | bl b=>cases e;exact⟨.bool_bool _ _,.bool_bool _ _,.bool_bool _ _⟩
  | int i t=>cases e;exact⟨.bool_int _ _ _,.bool_int _ _ _,.bool_int _ _ _⟩
  | str x t=>cases e;exact⟨.bool_str _ _ _,.bool_str _ _ _,.bool_str _ _ _⟩
  | tup xs p=>cases e;exact⟨.bool_tuple _ p hu,.bool_tuple _ p hu,.bool_tuple _ p hu⟩
  | lst p=>cases e;exact⟨.bool_list _ p hu,.bool_list _ p hu,.bool_list _ p hu⟩
 | int c t'=>cases d' with
  | non=>cases e;exact⟨.int_none _ _,.int_none _ _,.int_none _ _⟩
  | bl b=>cases e;exact⟨.int_bool _ _ _,.int_bool _ _ _,.int_bool _ _ _⟩
  | int i t=>cases e;exact⟨.int_int _ _ _ _,.int_int _ _ _ _,.int_int _ _ _ _⟩
  | str x t=>cases e;exact⟨.int_str _ _ _ _,.int_str _ _ _ _,.int_str _ _ _ _⟩
  | tup xs p=>cases e;exact⟨.int_tuple _ _ p hu,.int_tuple _ _ p hu,.int_tuple _ _ p hu⟩
  | lst p=>cases e;exact⟨.int_list _ _ p hu,.int_list _ _ p hu,.int_list _ _ p hu⟩
 | str c t'=>cases d' with
  | non=>cases e;exact⟨.str_none _ _,.str_none _ _,.str_none _ _⟩
  | bl b=>cases e;exact⟨.str_bool _ _ _,.str_bool _ _ _,.str_bool _ _ _⟩
  | int i t=>cases e;exact⟨.str_int _ _ _ _,.str_int _ _ _ _,.str_int _ _ _ _⟩
  | str x t=>cases e;exact⟨.str_str _ _ _ _,.str_str _ _ _ _,.str_str _ _ _ _⟩
  | tup xs p=>cases e;exact⟨.str_tuple _ _ p hu,.str_tuple _ _ p hu,.str_tuple _ _ p hu⟩
  | lst p=>cases e;exact⟨.str_list _ _ p hu,.str_list _ _ p hu,.str_list _ _ p hu⟩
 | tup zs p'=>cases d' with
  | non=>cases e;exact⟨.tuple_none p' hu,.tuple_none p' hu,.tuple_none p' hu⟩
  | bl b=>cases e;exact⟨.tuple_bool _ p' hu,.tuple_bool _ p' hu,.tuple_bool _ p' hu⟩
  | int i t=>cases e;exact⟨.tuple_int _ _ p' hu,.tuple_int _ _ p' hu,.tuple_int _ _ p' hu⟩
  | str x t=>cases e;exact⟨.tuple_str _ _ p' hu,.tuple_str _ _ p' hu,.tuple_str _ _ p' hu⟩
  | tup xs p=>exact absurd rfl (nt _ _ rfl)
  | lst p=>cases e;exact⟨.tuple_list p' p hu,.of_refs (λz=>by subst z;exact Cy p' p) (.tuple_list p' p hu),.tuple_list p' p hu⟩
 | lst p'=>cases d' with
  | non=>cases e;exact⟨.list_none p' hu,.list_none p' hu,.list_none p' hu⟩
  | bl b=>cases e;exact⟨.list_bool _ p' hu,.list_bool _ p' hu,.list_bool _ p' hu⟩
  | int i t=>cases e;exact⟨.list_int _ _ p' hu,.list_int _ _ p' hu,.list_int _ _ p' hu⟩
  | str x t=>cases e;exact⟨.list_str _ _ p' hu,.list_str _ _ p' hu,.list_str _ _ p' hu⟩
  | tup xs p=>cases e;exact⟨.list_tuple p' p hu,.of_refs (λz=>by subst z;exact Cy p p') (.list_tuple p' p hu),.list_tuple p' p hu⟩
  | lst p=>cases e
def zc{a:A}{x:V}(h:AV X.K ρ H a x)(e:P9 S a=some (.tup xs)):a=.tup xs/\∃p vs,x=.ref p/\H p=some (.tup vs)/\AVs X.K ρ H xs vs:=by
 cases h with
 | tup h r=>cases e;exact⟨rfl,_,_,rfl,h,r⟩
 | ref h=>obtain⟨_,_,z⟩:=br.mp e;cases z
 | _=>cases e
def zE{i:Nat}{x:V}(h:AV X.K ρ H (.ref i) x):∃p,x=.ref p/\ρ[i]?=some p:=by
 cases h with
 | ref h=>exact⟨_,rfl,h⟩
def Hu{a:A}(e:P9 S a=some .lst):∃i,a=.ref i:=by
 cases a with
 | ref i=>exact⟨i,rfl⟩
 | _=>cases e
def JH{n:Nat}{a:A}{k:Bool}(e:xw S (n+1) a b=some k):(∃i j xs ys,a=.ref i/\b=.ref j/\i_ S i=some xs/\i_ S j=some ys/\ug (xw S n) xs ys=some k)\/(∃h h',P9 S a=some h/\P9 S b=some h'/\L1 (xw S n) h h'=some k/\(h=.lst->h'≠.lst)):=by
 unfold xw at e;split at e
 ·obtain⟨xs,e1,e⟩:=cM.mp e;obtain⟨ys,e2,e⟩:=cM.mp e;exact .inl ⟨_,_,xs,ys,rfl,rfl,e1,e2,e⟩
 ·rename_i nr;obtain⟨h,e1,e⟩:=cM.mp e;obtain⟨h',e2,e⟩:=cM.mp e;refine .inr ⟨h,h',e1,e2,e,λz1 z2=>?_⟩;subst z1 z2;obtain⟨i,rfl⟩:=Hu e1;obtain⟨j,rfl⟩:=Hu e2;exact nr i j rfl rfl
def LV{f:A->A->bd}{k:Bool}(d:KdV s h u)(d':KdV s h' u)(nt:∀xs ys,h=.tup xs->h'≠.tup ys)(e:L1 f h h'=some k):k=true:=by
 cases d with
 | non=>cases d';exact(aR e).symm
 | bl b=>cases d';exact(aR e).symm.trans (bN b)
 | int b=>cases d';exact(aR e).symm.trans (bN b)
 | str b=>cases d';exact(aR e).symm.trans (bN b)
 | tup xs p=>cases d' with
  | tup=>exact absurd rfl (nt _ _ rfl)
  | lst q=>exact(Cy p q).elim
 | lst p=>cases d' with
  | tup _ q=>exact(Cy q p).elim
  | lst q=>cases e
def zQ{f:A->A->bd}(hf:∀a b x u k,AV X.K ρ H a x->AV X.K ρ H b x->RelV x u->f a b=some k->k=true):∀{xs ys:ad}{vs:List V}{us:ap}{k:Bool},AVs X.K ρ H xs vs->AVs X.K ρ H ys vs->Vals vs us->ug f xs ys=some k->k=true:=by
 intro xs ys vs us k h1 h2 q e
 induction q generalizing xs ys k with
 | nil=>cases h1;cases h2;exact(aR e).symm
 | cons rv _ ih=>
  cases h1 with
  | cons h t=>cases h2 with
   | cons h' t'=>
    obtain⟨p,e1,e⟩:=cM.mp e;obtain⟨q,e2,e3⟩:=br.mp e;rw[<- e3,hf _ _ _ _ p h h' rv e1,ih t t' e2];rfl
def Dp(h h':Sh):(∃xs ys,h=.tup xs/\h'=.tup ys)\/(∀xs ys,h=.tup xs->h'≠.tup ys):=by
 cases h with
 | tup xs=>cases h' with
  | tup ys=>exact .inl ⟨xs,ys,rfl,rfl⟩
  | _=>exact .inr λ_ _ _ z=>nomatch z
 | _=>exact .inr λ_ _ z=>nomatch z
theorem yG(I:Inv X pins σ H s)(R:Rel X.K ρ H S):∀(n:Nat) (a b:A) (x:V) (u:af) (k:Bool),AV X.K ρ H a x->AV X.K ρ H b x->RelV x u->xw S n a b=some k->k=true
 | 0,_,_,_,_,_,_,_,_,e=>nomatch e
 | n+1,a,b,x,u,k,ha,hb,ru,e=>by
  rcases JH e with⟨i,j,xs,ys,rfl,rfl,e1,e2,e⟩|⟨h,h',e1,e2,e,_⟩
  ·obtain⟨p,rfl,h1⟩:=zE ha;obtain⟨q,z,h2⟩:=zE hb
   cases z
   obtain⟨vs,h3,r1⟩:=R.lst h1 (jn e1);obtain⟨ws,h4,r2⟩:=R.lst h2 (jn e2);rw[h3]at h4
   cases h4
   obtain⟨us,q,_⟩:=I.list (mw.of h3);exact zQ (λa b x u k=>yG I R n a b x u k) r1 r2 q e
  ·rcases Dp h h' with⟨xs,ys,rfl,rfl⟩|nt
   ·obtain⟨rfl,p,vs,rfl,h3,r1⟩:=zc ha e1;obtain⟨rfl,q,ws,z,h4,r2⟩:=zc hb e2
    cases z
    have:=I.yl (mz.of h3) (mz.of h4);subst this;obtain⟨us,q,_⟩:=I.tuple (mz.of h3);exact zQ (λa b x u k=>yG I R n a b x u k) r1 r2 q e
   ·exact LV (C3 I R ha ru e1) (C3 I R hb ru e2) nt e
abbrev xF (f:A->A->bd)(xs ys:ad)(j:Nat):Bool:=match xs[j]?,ys[j]? with
 | some x,some y=>(f x y).getD true
 | _,_=>true
theorem vq{f:A->A->bd}:∀{xs ys:ad}{k:Bool},ug f xs ys=some k->k=((List.range (min xs.length ys.length)).all (xF f xs ys) && xs.length == ys.length)/\∀j x y,xs[j]?=some x->ys[j]?=some y->f x y=some (xF f xs ys j)
 | [],[],k,e=>⟨(aR e).symm,λj x y h=>by simp at h⟩
 | [],_::_,k,e=>⟨(aR e).symm,λj x y h=>by simp at h⟩
 | _::_,[],k,e=>⟨(aR e).symm,λj x y _ h=>by simp at h⟩
 | x::xs,y::ys,k,e=>by
  unfold ug at e
  cases e1:f x y with
  | none=>rw[e1]at e;cases e
  | some p=>
   rw[e1]at e;obtain⟨q,e2,e3⟩:=br.mp e;obtain⟨h1,h2⟩:=vq e2;have p0:xF f (x::xs) (y::ys) 0=p:=by simp[xF,e1]
   have ps:∀j,xF f (x::xs) (y::ys) (j+1)=xF f xs ys j:=λj=>by simp[xF]
   refine⟨?_,λj a b ha hb=>?_⟩
   ·rw[<- e3,h1,bI,bI,Nat.succ_min_succ,List.range_succ_eq_map,iF,all_map,p0];have:(xF f (x::xs) (y::ys) ∘ Nat.succ)=xF f xs ys:=funext ps;rw[this,Bool.and_assoc];simp
   ·cases j with
    | zero=>
     simp at ha hb;subst ha hb;rw[p0];exact e1
    | succ j=>rw[ps];exact h2 j a b (by simpa using ha) (by simpa using hb)
def uY{f:A->A->bd}{B:aA}(hf:∀a b x y u v k,AV X.K ρ H a x->AV X.K ρ H b y->RelV x u->RelV y v->f a b=some k->SeqAt.EqAt B s u v k){us ts:ap}{k:Bool}
  (r1:AVs X.K ρ H xs vs) (r2:AVs X.K ρ H ys ws) (q1:Vals vs us) (q2:Vals ws ts) (e:ug f xs ys=some k):∀j (h1:j<us.toArray.size) (h2:j<ts.toArray.size),SeqAt.EqAt B s us.toArray[j] ts.toArray[j] (xF f xs ys j):=by
 intro j h1 h2;have l1:=r1.length;have l2:=r2.length;have l3:=q1.length;have l4:=q2.length;have hx:j<xs.length:=by simp at h1;lia
 have hy:j<ys.length:=by simp at h2;lia
 have e1:xs[j]?=some xs[j]:=aG hx;have e2:ys[j]?=some ys[j]:=aG hy;obtain⟨x,ex,ax⟩:=r1.get e1;obtain⟨y,ey,ay⟩:=r2.get e2;obtain⟨u,eu,ru⟩:=q1.get ex;obtain⟨t,et,rt⟩:=q2.get ey;have a1:us.toArray[j]=u:=by
  have:us[j]?=some us.toArray[j]:=by simp at h1;simp[h1]
  rw[eu]at this;exact(aR this).symm
 have a2:ts.toArray[j]=t:=by
  have:ts[j]?=some ts.toArray[j]:=by simp at h2;simp[h2]
  rw[et]at this;exact(aR this).symm
 rw[a1,a2];exact hf _ _ x y u t _ ax ay ru rt ((vq e).2 j _ _ e1 e2)
def in1_units(B:aA):B.in1.units=B.units+1:=rfl
theorem z0(I:Inv X pins σ H s)(R:Rel X.K ρ H S):∀(n:Nat) (B:aA) (a b:A) (x y:V) (u v:af) (k:Bool),B.units+n<cLine->AV X.K ρ H a x->AV X.K ρ H b y->RelV x u->RelV y v->xw S n a b=some k->Al B s u v k
 | 0,_,_,_,_,_,_,_,_,_,_,_,_,_,e=>nomatch e
 | n+1,B,a,b,x,y,u,v,k,hu,ha,hb,rx,ry,e=>by
  have hu0:B.units<cLine:=()
  have items:∀a b x y u v k,AV X.K ρ H a x->AV X.K ρ H b y->RelV x u->RelV y v->xw S n a b=some k->SeqAt.EqAt B.in1 s u v k:=λa b x y u v k h1 h2 h3 h4 h5=>(z0 I R n B.in1 a b x y u v k (by rw[in1_units];lia) h1 h2 h3 h4 h5).2.1;have same:=λ(z:y=x)=>yG I R (n+1) a b x u k ha (z ▸ hb) rx e;have refs:∀{p q:ak},x=.ref p->y=.ref q->u=.ref p->v=.ref q->SeqAt.RcAt B s u v k->SeqAt.EqAt B s u v k:=λ{p q} z1 z2 z3 z4 h=>by
   subst z3 z4;by_cases hp:p=q
   ·subst hp;rw[same (z2.trans z1.symm)];exact .same _
   ·exact .of_refs hp h
  rcases JH e with⟨i,j,xs,ys,rfl,rfl,e1,e2,e⟩|⟨h,h',e1,e2,e,_⟩
  ·obtain⟨p,rfl,h1⟩:=zE ha;obtain⟨q,rfl,h2⟩:=zE hb;obtain⟨vs,h3,r1⟩:=R.lst h1 (jn e1);obtain⟨ws,h4,r2⟩:=R.lst h2 (jn e2);obtain⟨us,q1,p1,_⟩:=I.list (mw.of h3);obtain⟨ts,q2,p2,_⟩:=I.list (mw.of h4);have ru:=refs rfl rfl rx ry
   cases(show u=Value.ref p from rx)
   cases(show v=Value.ref q from ry)
   have l1:=r1.length;have l2:=r2.length;have l3:=q1.length;have l4:=q2.length;have ek:=(vq e).1;by_cases hl:xs.length=ys.length
   ·rw[<- hl,Nat.min_self,bN,Bool.and_true]at ek;have eh:us.toArray.size=ts.toArray.size:=by simp;lia
    have z1:=SeqAt.RcAt.lists p1.isList p2.isList eh hu0 (uY items r1 r2 q1 q2 e);have z2:=SeqAt.RcNeAt.lists p1.isList p2.isList eh hu0 (uY items r1 r2 q1 q2 e);rw[aQ,<- l3,<- l1,<- ek]at z1 z2;exact⟨z1,ru z1,z2⟩
   ·have:(xs.length == ys.length)=false:=by simpa using hl
    rw[this,Bool.and_false]at ek;subst ek;have eh:(us.toArray.size != ts.toArray.size)=true:=by simp;lia
    have z1:=SeqAt.RcAt.lists_lengths p1.isList p2.isList eh hu0;exact⟨z1,ru z1,SeqAt.RcNeAt.lists_lengths p1.isList p2.isList eh hu0⟩
  ·rcases Dp h h' with⟨xs,ys,rfl,rfl⟩|nt
   ·obtain⟨rfl,p,vs,rfl,h3,r1⟩:=zc ha e1;obtain⟨rfl,q,ws,rfl,h4,r2⟩:=zc hb e2;have ru:=refs rfl rfl rx ry
    cases(show u=Value.ref p from rx)
    cases(show v=Value.ref q from ry)
    obtain⟨us,q1,p1,_⟩:=I.tuple (mz.of h3);obtain⟨ts,q2,p2,_⟩:=I.tuple (mz.of h4);have ek:=(vq e).1;have z1:=SeqAt.RcAt.tuples p1 p2 hu0 (uY items r1 r2 q1 q2 e);have z2:=SeqAt.RcNeAt.tuples p1 p2 hu0 (uY items r1 r2 q1 q2 e);rw[aQ,aQ,<- q1.length,<- q2.length,<- r1.length,<- r2.length,<- ek]at z1 z2;exact⟨z1,ru z1,z2⟩
   ·exact RU hu0 (C3 I R ha rx e1) (C3 I R hb ry e2) nt e
end
section
variable {X:Cx}
abbrev qg (neg:Bool)(a b:A)(S:jd):R A:=opt (xw S 12 a b) λk=>.ok (.bl (if neg then !k else k)) S
def N4(hu:X.A.units+64<cLine):nq X (compareOp .Eq) (r2 X (qg false)):=λpins s σ H x y v u Q I rx ry h9=>by
 z_go;obtain⟨k,e,h⟩:=je h;exact(z0 I R 12 X.A a b x y v u k (by omega) va vb rx ry e).1 _ _ _ _ ⟨.bl _,H,I,rfl,h _ _ _ .refl R (.bl _)⟩
def E7(hu:X.A.units+64<cLine):nq X (compareOp .NotEq) (r2 X (qg true)):=λpins s σ H x y v u Q I rx ry h9=>by
 z_go;obtain⟨k,e,h⟩:=je h;exact(z0 I R 12 X.A a b x y v u k () va vb rx ry e).2.2 _ _ _ _ ⟨.bl _,H,I,rfl,h _ _ _ .refl R (.bl _)⟩
end
section
variable {X:Cx}{pos:Pos}{a b:aE}
meta abbrev Pt:=ad->jd->R (bb)
abbrev Eo:Pt:=λ_ S=>.ok none S
abbrev uH (c:Ex):Pt:=λτ S=>(c τ S).bind λa S1=>match a with
 | .int i=>.ok (some i) S1
 | _=>.no
abbrev tO (X:Cx)(c:Pt):TO:=λσ H Q=>∃ρ S τ,Rel X.K ρ H S/\SR X.K ρ H τ σ/\(c τ S).post (λo S'=>∀ρ' H',Ext ρ ρ' H H'->Rel X.K ρ' H' S'->Q o H') (XE X ρ H)
abbrev AO (X:Cx)(e:Option aE)(c:Pt):Prop:=PO X e (tO X c)
def Dz:AO X none Eo:=λpins s σ H Q I ⟨ρ,S,τ,R,r,h⟩=>L3 pins s σ H Q I (h ρ H .refl R)
def vj{c:Ex}(ha:AE X a c):AO X (some a) (uH c):=λpins s σ H Q I ⟨ρ,S,τ,R,r,h⟩=>K9 ha pins s σ H Q I ⟨ρ,S,τ,R,r,jb (jh h) .refl λx S1 h1 ρ1 H1 v e1 R1 v1=>by
 cases v1<;>first|exact h1.elim|exact⟨_,rfl,h1 ρ1 H1 e1 R1⟩⟩
abbrev sI (xs:ad)(lo hi:bb):ad:=(xs.drop (HT.kX xs.length 0 lo)).take (HT.kX xs.length xs.length hi-HT.kX xs.length 0 lo)
def AVs.cut{K:au}{H:Hp}(r:AVs K ρ H xs vs)(lo hi:bb):AVs K ρ H (sI xs lo hi) (A0 vs lo hi):=by
 unfold sI A0;rw[r.length];exact(r.drop _).take _
abbrev F9 (a:A)(lo hi:bb)(S:jd):R A:=match a with
 | .ref n=>opt (i_ S n) λxs=>.ok (.ref S.length) (S++[.lst (sI xs lo hi)])
 | .frz xs=>.ok (.ref S.length) (S++[.lst (sI xs lo hi)])
 | .tup xs=>gd (¬(HT.kX xs.length 0 lo=0/\HT.kX xs.length xs.length hi=xs.length)) (.ok (.tup (sI xs lo hi)) S)
 | _=>.no
abbrev QL (c:Ex)(lo hi:Pt):Ex:=λτ S=>(c τ S).bind λa S1=>(lo τ S1).bind λl S2=>(hi τ S2).bind λu S3=>F9 a l u S3
abbrev rS (X:Cx):V->bb->bb->Hp->VK->Prop:=λx lo hi H Q=>∃ρ S a,Rel X.K ρ H S/\AV X.K ρ H a x/\(F9 a lo hi S).post (vR X ρ H Q) (XE X ρ H)
def OZ:S8 X (rS X):=λpins s σ H x v vl vu lo hi sl Q I rx hs pl pu h9=>by
 obtain⟨ρ,S,a,R,va,h⟩:=h9
 cases va with
 | @tup p xs vs h1 r1=>
  obtain⟨hc,h⟩:=jv h;exact NR pins s σ H _ v vl vu lo hi sl Q I rx hs pl pu ⟨p,vs,rfl,(mz.of h1),by rw[<- r1.length];exact hc,qa R (r1.cut lo hi) .refl h⟩
 | @frz p xs vs h1 r1=>exact EC pins s σ H _ v vl vu lo hi sl Q I rx hs pl pu ⟨p,vs,rfl,h1.II,lA R (r1.cut lo hi) .refl h⟩
 | @ref p n hp=>
  kt_k;obtain⟨vs,h1,r1⟩:=R.lst hp (jn hn);exact EC pins s σ H _ v vl vu lo hi sl Q I rx hs pl pu ⟨p,vs,rfl,mw.of h1,lA R (r1.cut lo hi) .refl h⟩
 | _=>exact h.elim
def IT{e:aE}{lo hi:Option aE}{c:Ex}{cl ch:Pt}(he:AE X e c)(hl:AO X lo cl)(hh:AO X hi ch):AE X (.Subscript e (.Slice lo hi none p2) pos) (QL c cl ch):=PE.imp (Ks OZ he hl hh) λσ H Q h9=>by
 room;refine⟨ρ,S,τ,R,r,jb (jh h) .refl λa S1 h1 ρ1 H1 x e1 R1 v1=>⟨ρ1,S1,τ,R1,r.ext e1,jb (jh h1) e1 λl S2 h2 ρ2 H2 e2 R2=>⟨ρ2,S2,τ,R2,r.ext (e1.trans e2),jb (jh h2) (e1.trans e2) λu S3 h3 ρ3 H3 e3 R3=>?_⟩⟩⟩;exact⟨ρ3,S3,a,R3,v1.ext (e2.trans e3),jb h3 (e1.trans (e2.trans e3)) λ_ _ z=>z.ext (e1.trans (e2.trans e3))⟩
abbrev xG (a:A)(S:jd):R A:=match a with
 | .ref n=>opt (i_ S n) λxs=>.ok (.ref S.length) (S++[.lst xs.reverse])
 | .tup xs=>.ok (.tup xs.reverse) S
 | _=>.no
def Gx{e:aE}{up cp:Pos}{kk:Nat}{c:Ex}(he:AE X e c):AE X (.Subscript e (.Slice none none (some (.UnaryOp .USub (.Constant (.int 1) kk cp) up)) p2) pos) (Bj xG c):=λpins s σ H Q I h9=>by
 room;have hb:=jh h
 cases hc:c τ S with
 | no=>rw[hc]at hb;exact hb.elim
 | ex x S1=>
  rw[hc]at hb;exact Dr he pins s σ H Q I ⟨ρ,S,τ,R,r,by rw[hc];exact hb⟩
 | ok a S1=>
  rw[hc]at hb;have hb:(xG a S1).post (vR X ρ H Q) (XE X ρ H):=hb
  cases a with
  | tup xs=>
   refine Dr he pins s σ H Q I ⟨ρ,S,τ,R,r,?_⟩;rw[hc];intro ρ1 H1 x e1 R1 v1
   cases v1 with
   | tup h1 r1=>exact⟨_,_,rfl,(mz.of h1),qa R1 r1.reverse e1 hb⟩
  | ref n=>
   refine KO he pins s σ H Q I ⟨ρ,S,τ,R,r,?_⟩;rw[hc];intro ρ1 H1 x e1 R1 v1;obtain⟨xs,hn,h⟩:=je hb
   cases v1 with
   | ref hp=>
    obtain⟨vs,h1,r1⟩:=R1.lst hp (jn hn);exact⟨_,_,rfl,mw.of h1,lA R1 r1.reverse e1 h⟩
  | _=>exact hb.elim
abbrev jz (f:ad->jd->R A)(d:pO):Ex:=λτ S=>(d τ S).bind λas S1=>f as S1
def Av{f:ad->jd->R A}{d:pO}{H:Hp}{Q:VK}(h:tE X (jz f d) σ H Q):Uo (rN X f) (tL X d) σ H Q:=by
 kpc_g;exact⟨ρ,S,τ,R,r,jb (jh h) .refl λas S1 h1 ρ1 H1 vs e1 R1 v1=>⟨ρ1,S1,as,R1,v1,jb h1 e1 λ_ _ z=>z.ext e1⟩⟩
variable {x:Str}{p:Pos}{e:aE}{es:List aE}{id T:String}{f:ad->jd->R A}{d:pO}
def jt(hc:jE X (.builtin id) (rN X f))(hm:X.mg x=none)(hv:bootBuiltins x=some (.builtin id))(ha:AL X (e::es) d)(hg:Gl X x:=by rfl)(hn:x ≠ "__name__" := by decide)(hdb:(x == ("__debug__" : Str))=false:=by decide)
  (he:starEach (e::es) X.env=(false,eval e X.env)::starEach es X.env:=by rfl) (hpl:(backTo pos (starEach es X.env)).any (·.1)=false:=by rfl):AE X (.Call (.Name x p) (e::es) [] pos) (jz f d):=
 PE.imp (AR hc hg hm hv ha hn hdb he hpl) λ_ _ _ h=>Av h
def lU(hc:jE X (.type T) (rN X f))(hm:X.mg x=none)(hv:bootBuiltins x=some (.type T))(ha:AL X (e::es) d)(hg:Gl X x:=by rfl)(hn:x ≠ "__name__" := by decide)(hdb:(x == ("__debug__" : Str))=false:=by decide)
  (he:starEach (e::es) X.env=(false,eval e X.env)::starEach es X.env:=by rfl) (hpl:(backTo pos (starEach es X.env)).any (·.1)=false:=by rfl):AE X (.Call (.Name x p) (e::es) [] pos) (jz f d):=
 PE.imp (xN hc hg hm hv ha hn hdb he hpl) λ_ _ _ h=>Av h
abbrev A.seq (S:jd):A->Option (ad)
 | .tup xs=>some xs
 | .frz xs=>some xs
 | .ref n=>i_ S n
 | _=>none
def Hq{K:au}{H:Hp}{x:A}{v:V}(R:Rel K ρ H S)(h:AV K ρ H x v)(e:x.seq S=some xs):∃p vs,v=.ref p/\(mw K H p vs\/mz K H p vs)/\AVs K ρ H xs vs:=by
 cases h with
 | tup h r=>cases aR e;exact⟨_,_,rfl,.inr (mz.of h),r⟩
 | frz h r=>cases aR e;exact⟨_,_,rfl,.inl h.II,r⟩
 | ref h=>
  obtain⟨vs,h1,r1⟩:=R.lst h (jn e);exact⟨_,vs,rfl,.inl (mw.of h1),r1⟩
 | _=>cases e
def Fd{K:au}{H:Hp}{x:A}(h:AVs K ρ H [x] vs):∃v,vs=[v]/\AV K ρ H x v:=by
 cases h with
 | cons h t=>cases t;exact⟨_,rfl,h⟩
def Uv{K:au}{H:Hp}{x:A}(h:AVs K ρ H [x,y] vs):∃v w,vs=[v,w]/\AV K ρ H x v/\AV K ρ H y w:=by
 cases h with
 | cons h t=>obtain⟨w,rfl,h'⟩:=Fd t;exact⟨_,_,rfl,h,h'⟩
abbrev f1 (g:A->jd->R A):ad->jd->R A:=λas S=>match as with
 | [x]=>g x S
 | _=>.no
abbrev f2 (g:A->A->jd->R A):ad->jd->R A:=λas S=>match as with
 | [x,y]=>g x y S
 | _=>.no
def K8{g:A->jd->R A}{P:A->jd->Prop}{E:Str->jd->Prop}(h:(f1 g as S).post P E):∃x,as=[x]/\(g x S).post P E:=by
 match as,h with
 | [],h=>exact h.elim
 | [x],h=>exact⟨x,rfl,h⟩
 | _::_::_,h=>exact h.elim
def Lb{g:A->A->jd->R A}{P:A->jd->Prop}{E:Str->jd->Prop}(h:(f2 g as S).post P E):∃x y,as=[x,y]/\(g x y S).post P E:=by
 match as,h with
 | [],h=>exact h.elim
 | [_],h=>exact h.elim
 | [x,y],h=>exact⟨x,y,rfl,h⟩
 | _::_::_::_,h=>exact h.elim
def Mr{g:A->jd->R A}{H:Hp}{Q:VK}(h:rN X (f1 g) vs H Q):∃v,vs=[v]/\∃ρ S x,Rel X.K ρ H S/\AV X.K ρ H x v/\(g x S).post (vR X ρ H Q) (XE X ρ H):=by
 obtain⟨ρ,S,as,R,v,h⟩:=h;obtain⟨x,rfl,h⟩:=K8 h;obtain⟨w,rfl,hv⟩:=Fd v;exact⟨w,rfl,ρ,S,x,R,hv,h⟩
def Tz{g:A->A->jd->R A}{H:Hp}{Q:VK}(h:rN X (f2 g) vs H Q):∃v w,vs=[v,w]/\∃ρ S x y,Rel X.K ρ H S/\AV X.K ρ H x v/\AV X.K ρ H y w/\(g x y S).post (vR X ρ H Q) (XE X ρ H):=by
 obtain⟨ρ,S,as,R,v,h⟩:=h;obtain⟨x,y,rfl,h⟩:=Lb h;obtain⟨w,w',rfl,hv,hv'⟩:=Uv v;exact⟨w,w',rfl,ρ,S,x,y,R,hv,hv',h⟩
abbrev mD (x:A)(S:jd):R A:=match x with
 | .str x=>gd (x.length<=sizeLine) (.ok (.int x.length) S)
 | .tup xs=>.ok (.int xs.length) S
 | .frz xs=>.ok (.int xs.length) S
 | .ref n=>opt (i_ S n) λxs=>.ok (.int xs.length) S
 | _=>.no
def mF:jE X (.builtin "len") (rN X (f1 mD)):=jE.imp JV λvs H Q h0=>by
 kj_on;clear h0
 cases hv with
 | str z=>
  obtain⟨hz,h⟩:=jv h;exact⟨_,_,rfl,⟨hz,rfl⟩,h _ _ _ .refl R (.int _)⟩
 | @tup p xs us h1 r=>exact⟨_,us.length,rfl,.inr ⟨us,(mz.of h1),rfl⟩,by rw[<- r.length];exact h _ _ _ .refl R (.int _)⟩
 | @frz p xs us h1 r=>exact⟨_,us.length,rfl,.inl ⟨us,h1.II,rfl⟩,by rw[<- r.length];exact h _ _ _ .refl R (.int _)⟩
 | ref hp=>
  kt_k;obtain⟨us,h1,r⟩:=R.lst hp (jn hn);exact⟨_,us.length,rfl,.inl ⟨us,mw.of h1,rfl⟩,by rw[<- r.length];exact h _ _ _ .refl R (.int _)⟩
 | _=>exact h.elim
abbrev Qx (x:A)(S:jd):R A:=match x with
 | .int i=>.ok (.int (if i<0 then -i else i)) S
 | _=>.no
def RW:jE X (.builtin "abs") (rN X (f1 Qx)):=jE.imp GP λvs H Q h0=>by
 kj_on;clear h0
 cases hv<;>first|exact h.elim|exact⟨_,rfl,h _ _ _ .refl R (.int _)⟩
abbrev El (x y:A)(S:jd):R A:=match x,y with
 | .int i,.int j=>.ok (.int (if j>i then j else i)) S
 | _,_=>.no
def Gy(hc:X.calm=true):jE X (.builtin "max") (rN X (f2 El)):=jE.imp (FL hc) λvs H Q h0=>by
 obtain⟨w,w',rfl,ρ,S,x,y,R,hv,hv',h⟩:=Tz h0;clear h0
 cases hv<;>first|exact h.elim|(cases hv'<;>first|exact h.elim|exact⟨_,_,rfl,h _ _ _ .refl R (.int _)⟩)
abbrev Cr (x y:A)(S:jd):R A:=match x,y with
 | .int i,.int j=>.ok (.int (if j<i then j else i)) S
 | _,_=>.no
def Hf(hc:X.calm=true):jE X (.builtin "min") (rN X (f2 Cr)):=jE.imp (E5 hc) λvs H Q h0=>by
 obtain⟨w,w',rfl,ρ,S,x,y,R,hv,hv',h⟩:=Tz h0;clear h0
 cases hv<;>first|exact h.elim|(cases hv'<;>first|exact h.elim|exact⟨_,_,rfl,h _ _ _ .refl R (.int _)⟩)
abbrev MG (x:A)(S:jd):R A:=match x with
 | .int i=>.ok (.int i) S
 | .bl k=>.ok (.int (if k then 1 else 0)) S
 | .str y=>opt (PySem.intText? y) λn=>gd (y.length<=640) (.ok (.int n) S)
 | _=>.no
abbrev tw (x y:A)(S:jd):R A:=match x,y with
 | .int i,.int j=>.ok (.rng i j) S
 | _,_=>.no
def wJ:jE X (.type "range") (rN X (f2 tw)):=jE.imp zd λvs H Q h0=>by
 obtain⟨w,w',rfl,ρ,S,x,y,R,hv,hv',h⟩:=Tz h0;clear h0
 cases hv with
 | int i=>
  cases hv' with
  | int j=>
   refine⟨i,j,rfl,λp hp=>?_⟩;obtain⟨ex,R'⟩:=R.im (u:=.rng i j) hp;exact h ρ _ _ ex R' (.rng jJ)
  | _=>exact h.elim
 | _=>exact h.elim
abbrev vW (i j:Int):Prop:=(-(2 ^ 62)<=i/\i<2 ^ 62/\-(2 ^ 62)<=j/\j<2 ^ 62)/\(j-i).toNat<=1000
instance (i j:Int):Decidable (vW i j):=by unfold vW;infer_instance
abbrev vC (x:A)(S:jd):R A:=match x with
 | .rng i j=>gd (vW i j) (.ok (.ref S.length) (S++[.lst ((jw i j).map .int)]))
 | .tup xs=>.ok (.ref S.length) (S++[.lst xs])
 | .frz xs=>.ok (.ref S.length) (S++[.lst xs])
 | .ref n=>opt (i_ S n) λxs=>.ok (.ref S.length) (S++[.lst xs])
 | _=>.no
def JZ(hc:X.calm=true):jE X (.type "list") (rN X (f1 vC)):=λpins s σ H vs us Q I rx h0=>by
 kj_on;clear h0
 cases hv with
 | @rng p i j hp=>
  obtain⟨hc',h⟩:=jv h;exact xy hc pins s σ H _ us Q I rx ⟨p,i,j,rfl,hp,hc'.1,hc'.2,lA R (nQ _) .refl h⟩
 | @tup p xs vs h1 r=>exact pN pins s σ H _ us Q I rx ⟨p,vs,rfl,.inr (mz.of h1),lA R r .refl h⟩
 | @frz p xs vs h1 r=>exact pN pins s σ H _ us Q I rx ⟨p,vs,rfl,.inl h1.II,lA R r .refl h⟩
 | @ref p n hp=>
  kt_k;obtain⟨vs,h1,r⟩:=R.lst hp (jn hn);exact pN pins s σ H _ us Q I rx ⟨p,vs,rfl,.inl (mw.of h1),lA R r .refl h⟩
 | _=>exact h.elim
abbrev p6 (x:A)(S:jd):R A:=match x with
 | .rng i j=>gd (vW i j) (.ok (.tup ((jw i j).map .int)) S)
 | .tup xs=>.ok (.tup xs) S
 | .frz xs=>.ok (.tup xs) S
 | .ref n=>opt (i_ S n) λxs=>.ok (.tup xs) S
 | _=>.no
def u7(hc:X.calm=true):jE X (.type "tuple") (rN X (f1 p6)):=λpins s σ H vs us Q I rx h0=>by
 kj_on;clear h0
 cases hv with
 | @rng p i j hp=>
  obtain⟨hc',h⟩:=jv h;exact vJ hc pins s σ H _ us Q I rx ⟨p,i,j,rfl,hp,hc'.1,hc'.2,qa R (nQ _) .refl h⟩
 | @tup p xs vs h1 r=>exact oN pins s σ H _ us Q I rx ⟨p,vs,rfl,.inr ⟨(mz.of h1),h _ _ _ .refl R (.tup h1 r)⟩⟩
 | @frz p xs vs h1 r=>exact oN pins s σ H _ us Q I rx ⟨p,vs,rfl,.inl ⟨h1.II,qa R r .refl h⟩⟩
 | @ref p n hp=>
  kt_k;obtain⟨vs,h1,r⟩:=R.lst hp (jn hn);exact oN pins s σ H _ us Q I rx ⟨p,vs,rfl,.inl ⟨mw.of h1,qa R r .refl h⟩⟩
 | _=>exact h.elim
abbrev A.FQ:ad->Option (List Bool)
 | []=>some []
 | .bl b::xs=>(A.FQ xs).map (b::·)
 | _=>none
theorem Jc{K:au}{H:Hp}:∀{xs:ad}{vs:List V}{bs:List Bool},AVs K ρ H xs vs->A.FQ xs=some bs->vs=bs.map V.bl
 | _,_,_,.nil,e=>by cases e;rfl
 | x::xs,_,bs,.cons h t,e=>by
  cases x with
  | bl b=>
   obtain⟨cs,e1,rfl⟩:=br.mp (show(A.FQ xs).map (b::·)=some bs from e)
   cases h
   rw[Jc t e1];rfl
  | _=>cases e
abbrev Px (x:A)(S:jd):R A:=match x with
 | .ref n=>opt (i_ S n) λxs=>opt (A.FQ xs) λbs=>.ok (.bl (bs.any λb=>b)) S
 | _=>.no
def Sb(hc:X.calm=true):jE X (.builtin "any") (rN X (f1 Px)):=jE.imp (F8 hc) λvs H Q h0=>by
 kj_on;clear h0
 cases hv with
 | @ref p n hp=>
  kt_k;obtain⟨bs,hb,h⟩:=je h;obtain⟨vs,h1,r⟩:=R.lst hp (jn hn);rw[Jc r hb]at h1;exact⟨p,bs,rfl,mw.of h1,h _ _ _ .refl R (.bl _)⟩
 | _=>exact h.elim
abbrev maxOf:ae->bb
 | []=>none
 | [x]=>some x
 | x::xs=>(maxOf xs).map λm=>if m>x then m else x
theorem wZ:∀{ns:ae}{m:Int},maxOf ns=some m->m∈ns/\∀a∈ns,a<=m
 | [],_,e=>nomatch e
 | [x],m,e=>by cases e;exact⟨aW,λa h=>by rw[bB]at h;lia⟩
 | x::y::xs,m,e=>by
  obtain⟨m',e1,rfl⟩:=br.mp (show(maxOf (y::xs)).map (λm=>if m>x then m else x)=some m from e);obtain⟨h1,h2⟩:=wZ e1;by_cases hx:m'>x
  ·rw[aN hx];exact⟨aV _ h1,λa h=>(bJ.mp h).elim (λz=>()) (h2 a)⟩
  ·rw[aM hx];exact⟨aW,λa h=>(bJ.mp h).elim (λz=>()) λz=>by have:=h2 a z;lia⟩
abbrev GV (x:A)(S:jd):R A:=match x with
 | .ref n=>opt (i_ S n) λxs=>opt (A.ints xs) λns=>opt (maxOf ns) λm=>.ok (.int m) S
 | _=>.no
def Ov(hc:X.calm=true):jE X (.builtin "max") (rN X (f1 GV)):=jE.imp (Ft hc) λvs H Q h0=>by
 kj_on;clear h0
 cases hv with
 | @ref p n hp=>
  kt_k;obtain⟨ns,hb,h⟩:=je h;obtain⟨m,hm,h⟩:=je h;obtain⟨vs,h1,r⟩:=R.lst hp (jn hn);rw[pQ r hb]at h1;obtain⟨g1,g2⟩:=wZ hm;refine⟨p,ns,rfl,mw.of h1,gp g1,λM hM hG=>?_⟩;have:M=m:=iP (g2 M hM) (hG m g1);rw[this];exact h _ _ _ .refl R (.int _)
 | _=>exact h.elim
abbrev insI (x:Int):ae->ae
 | []=>[x]
 | y::ys=>if x<=y then x::y::ys else y::insI x ys
abbrev sortI:ae->ae
 | []=>[]
 | x::xs=>insI x (sortI xs)
theorem insI_perm(x:Int):∀ys:ae,(insI x ys).Perm (x::ys)
 | []=>cZ _
 | y::ys=>by
  unfold insI;by_cases h:x<=y
  ·rw[aN h]
  ·rw[aM h];exact((insI_perm x ys).cons y).trans (List.Perm.swap x y ys)
theorem sortI_perm:∀xs:ae,(sortI xs).Perm xs
 | []=>cZ _
 | x::xs=>(insI_perm x (sortI xs)).trans ((sortI_perm xs).cons x)
theorem D5(x:Int):∀ys:ae,ys.Pairwise (·<=·)->(insI x ys).Pairwise (·<=·)
 | [],_=>dw _ _
 | y::ys,h=>by
  unfold insI;obtain⟨h1,h2⟩:=cg.mp h;by_cases hx:x<=y
  ·rw[aN hx];exact cg.mpr ⟨λz hz=>(bJ.mp hz).elim (λe=>e ▸ hx) λhz=>Int.le_trans hx (h1 z hz),h⟩
  ·rw[aM hx];refine cg.mpr ⟨λz hz=>?_,D5 x ys h2⟩
   rcases bJ.mp ((insI_perm x ys).mem_iff.mp hz)with e|hz
   ·subst e;lia
   ·exact h1 z hz
theorem wA:∀xs:ae,(sortI xs).Pairwise (·<=·)
 | []=>List.Pairwise.nil
 | x::xs=>D5 x _ (wA xs)
abbrev BV (x:A)(S:jd):R A:=opt (x.seq S) λxs=>opt (A.ints xs) λns=>gd (ns.length<64) (.ok (.ref S.length) (S++[.lst ((sortI ns).map .int)]))
def LG:jE X (.builtin "sorted") (rN X (f1 BV)):=jE.imp yL λvs H Q h0=>by
 kj_on;clear h0;kt_k;obtain⟨ns,hb,h⟩:=je h;obtain⟨hl,h⟩:=jv h;obtain⟨p,us,rfl,hs,r⟩:=Hq R hv hn;rw[pQ r hb]at hs;refine⟨p,ns,rfl,hs,hl,λl ns' hl' hp hw=>?_⟩;have:ns'=sortI ns:=KS (hp.trans (sortI_perm ns).symm) hw (wA ns);rw[this];exact lA R (nQ _) .refl h l hl'
abbrev A.kd:A->jd->Option Kd
 | .non,_=>some .non
 | .bl _,_=>some .bl
 | .int _,_=>some .int
 | .str _,_=>some .str
 | .tup _,_=>some .tup
 | .ref n,S=>(i_ S n).map λ_=>.lst
 | _,_=>none
abbrev QY (k:Kd)(c:String):bd:=if c = "int" then some (decide (k=.int\/k=.bl))else if c = "bool" then some (decide (k=.bl))else if c = "tuple" then some (decide (k=.tup))else if c = "list" then some (decide (k=.lst))else if c = "str" then some (decide (k=.str))else none
abbrev TH (x y:A)(S:jd):R A:=match y with
 | .ty c=>opt (x.kd S) λk=>opt (QY k c) λb=>.ok (.bl b) S
 | _=>.no
end
abbrev FW (x:ae):List (ae)->List (ae)
 | []=>[x]
 | y::ys=>if HT.lexLt y x=true then y::FW x ys else x::y::ys
abbrev lN:List (ae)->List (ae)
 | []=>[]
 | x::xs=>FW x (lN xs)
abbrev E9 (a b:ae):Prop:=HT.lexLt b a=false
def E9.trans{a c:ae}(h1:E9 a b)(h2:E9 b c):E9 a c:=by
 unfold E9 at *
 cases e:HT.lexLt c a with
 | false=>rfl
 | true=>
  rcases Sx.Dl (b:=b) e with z|z
  ·rw[h2]at z;cases z
  ·rw[h1]at z;cases z
theorem t_(x:ae):∀ys:List (ae),(FW x ys).Perm (x::ys)
 | []=>cZ _
 | y::ys=>by
  unfold FW;by_cases h:HT.lexLt y x=true
  ·rw[aN h];exact((t_ x ys).cons y).trans (List.Perm.swap x y ys)
  ·rw[aM h]
theorem rY:∀xs:List (ae),(lN xs).Perm xs
 | []=>cZ _
 | x::xs=>(t_ x (lN xs)).trans ((rY xs).cons x)
theorem Er(x:ae):∀ys:List (ae),ys.Pairwise E9->(FW x ys).Pairwise E9
 | [],_=>dw _ _
 | y::ys,h=>by
  unfold FW;obtain⟨h1,h2⟩:=cg.mp h;by_cases hx:HT.lexLt y x=true
  ·rw[aN hx];refine cg.mpr ⟨λz hz=>?_,Er x ys h2⟩
   rcases bJ.mp ((t_ x ys).mem_iff.mp hz)with e|hz
   ·subst e;unfold E9
    cases e:HT.lexLt z y with
    | false=>rfl
    | true=>have:=Sx.we hx e;rw[Sx.qV]at this;cases this
   ·exact h1 z hz
  ·rw[aM hx];have hx':E9 x y:=by unfold E9;simpa using hx
   exact cg.mpr ⟨λz hz=>(bJ.mp hz).elim (λe=>e ▸ hx') λhz=>hx'.trans (h1 z hz),h⟩
theorem z7:∀xs:List (ae),(lN xs).Pairwise E9
 | []=>List.Pairwise.nil
 | x::xs=>Er x _ (z7 xs)
def wo{xs:List (ae)}(p:xs.Perm ys)(h:xs.Pairwise E9):xs=lN ys:=
 fO (λa b _ _ h1 h2=>(Sx.yW h1 h2).symm) h (z7 ys) (p.trans (rY ys).symm)
theorem Vz:∀(N:Nat) (l:ag),l.Nodup->(∀x∈l,x<N)->l.length<=N
 | 0,l,_,h=>by
  cases l with
  | nil=>exact aP _
  | cons a l=>exact absurd (h a (aW ..)) (gT _)
 | N+1,l,nd,h=>by
  have h1:=Vz N (l.erase N) (nd.erase N) λx hx=>by
   have:=h x (List.mem_of_mem_erase hx);have:x≠N:=λz=>by
    subst z;exact(List.Nodup.not_mem_erase nd) hx
   lia
  have:=List.le_length_erase (l:=l) (a:=N)
  lia
def BL{N:Nat}{g:Nat->Nat}(h:∀i,i<N->g i<N)(inj:∀i j,i<j->j<N->g i≠g j):((List.range N).map g).Perm (List.range N):=by
 have nd:((List.range N).map g).Nodup:=by
  unfold List.Nodup;rw[cT];intro i j hi hj hij;rw[aK,cW]at hi hj;rw[eK,eK,fX,fX];exact inj i j hij hj
 have lt:∀x∈(List.range N).map g,x<N:=λx hx=>by
  obtain⟨i,hi,rfl⟩:=bA.mp hx;exact h i (cO.mp hi)
 refine(dO nd List.nodup_range).mpr λa=>⟨λha=>cO.mpr (lt a ha),λha=>?_⟩;refine fJ λhn=>?_;have:=Vz N (a::(List.range N).map g) (dR.mpr ⟨hn,nd⟩) λx hx=>by
  rcases bJ.mp hx with rfl|hx
  ·exact cO.mp ha
  ·exact lt x hx
 rw[bI,aK,cW]at this
 lia
def range_getD{α:Type}(l:List α)(d:α):(List.range l.length).map (λi=>l.getD i d)=l:=by
 apply b_;intro i;rw[aT];by_cases c:i<l.length
 ·rw[bR c];show some (l.getD i d)=_;rw[aI,aG c];rfl
 ·rw[bC (by rw[cW];lia),bC ()];rfl
def PN{kss:List (ae)}{g:Nat->Nat}(c:Sx.Cl g 0 kss.length)(so:Sx.So (Sx.Gb kss) g 0 kss.length):(List.range kss.length).map (λi=>kss.getD (g i) [])=lN kss:=by
 refine wo ?_ ?_
 ·have p:=BL (N:=kss.length) (g:=g) (λi hi=>(c i (cF _) hi).2) λi j hij hj z=>by
   have:=so i j (cF _) hij hj;rw[z]at this;exact this.Ma
  have:=p.map λi=>kss.getD i [];rw[bV,range_getD]at this;exact this
 ·rw[cT];intro i j hi hj hij;rw[aK,cW]at hi hj;rw[eK,eK,fX,fX];exact(so i j (cF _) hij hj).ge
abbrev Qt:ad->Option (List (ae))
 | []=>some []
 | .tup xs::r=>match A.ints xs with
  | some (k::ks)=>(Qt r).map λrs=>(k::ks)::rs
  | _=>none
 | _=>none
theorem MW{K:au}{H:Hp}:∀{xs:ad}{vs:List V}{kss:List (ae)},AVs K ρ H xs vs->Qt xs=some kss ->
  ∃rs:ar,vs=rs.map V.ref/\rs.length=kss.length/\∀(i:Nat) (r:ak) (ks:ae),rs[i]?=some r->kss[i]?=some ks->mz K H r (ks.map V.int)/\ks≠[]/\AV K ρ H (.tup (ks.map .int)) (.ref r)
 | [],_,_,.nil,e=>by cases e;exact⟨[],rfl,rfl,λi r ks h=>by simp at h⟩
 | x::xs,_,kss,.cons h t,e=>by
  cases h with
  | tup h r=>
   rename_i a ys us;unfold Qt at e
   cases e1:A.ints ys with
   | none=>rw[e1]at e;cases e
   | some ks=>
    rw[e1]at e
    cases ks with
    | nil=>cases e
    | cons k ks=>
     obtain⟨kss',e2,rfl⟩:=br.mp e;obtain⟨rs,rfl,hl,hh⟩:=MW t e2;have ev:=pQ r e1;subst ev;refine⟨a::rs,rfl,by rw[bI,bI,hl],λi r' ks' h1 h2=>?_⟩
     cases i with
     | zero=>
      cases h1
      cases h2
      exact⟨mz.of h,(λz=>nomatch z),.tup h (nQ _)⟩
     | succ i=>exact hh i r' ks' (by simpa using h1) (by simpa using h2)
  | _=>cases e
theorem J5{K:au}{H:Hp}{α:Type}{f:α->A}{h:α->V}:∀{l:List α},(∀a∈l,AV K ρ H (f a) (h a))->AVs K ρ H (l.map f) (l.map h)
 | [],_=>.nil
 | a::l,e=>.cons (e a (aW ..)) (J5 λb hb=>e b (aV _ hb))
section
variable {X:Cx}
abbrev yN (n:Nat)(S:jd):R A:=opt (i_ S n) λxs=>opt (Qt xs) λkss=>.ok (.ref S.length) (S++[.lst ((lN kss).map λks=>.tup (ks.map .int))])
abbrev Oi (x:A)(S:jd):R A:=match x with
 | .ref n=>yN n S
 | _=>.no
abbrev QH (x:A)(S:jd):Bool:=match x with
 | .ref n=>match i_ S n with
  | some (.tup _::_)=>true
  | _=>false
 | _=>false
abbrev qe (x:A)(S:jd):R A:=match QH x S with
 | false=>BV x S
 | true=>match x with
  | .ref n=>yN n S
  | _=>.no
def KZ:jE X (.builtin "sorted") (rN X (f1 Oi)):=jE.imp yJ λvs H Q h0=>by
 kj_on;clear h0
 cases hv with
 | ref hp=>
  rename_i p n;kt_k;obtain⟨kss,hb,h⟩:=je h;obtain⟨us,h1,r⟩:=R.lst hp (jn hn);obtain⟨rs,rfl,hl,hh⟩:=MW r hb;refine⟨p,rs,kss,rfl,mw.of h1,hl,λi r ks e1 e2=>⟨(hh i r ks e1 e2).1,(hh i r ks e1 e2).2.1⟩,λl g hl' hc hs=>?_⟩;have av:AVs X.K ρ H ((lN kss).map λks=>.tup (ks.map .int)) (((List.range kss.length).map λi=>rs.getD (g i) 0).map V.ref):=by
   rw[<- PN hc hs,bV,bV];refine J5 λi hi=>?_;have lt:=(hc i (cF _) (cO.mp hi)).2;have e1:rs[g i]?=some (rs.getD (g i) 0):=by rw[aI,aG ()];rfl
   have e2:kss[g i]?=some (kss.getD (g i) []):=by rw[aI,aG lt];rfl
   exact(hh _ _ _ e1 e2).2.2
  exact lA R av .refl h l hl'
 | _=>exact h.elim
def Bx:jE X (.builtin "sorted") (rN X (f1 qe)):=λpins s σ H xs us Q I r h=>by
 obtain⟨w,rfl,ρ,S,x,R,hv,h⟩:=Mr h;unfold qe at h
 cases e:QH x S with
 | false=>
  rw[e]at h;exact LG pins s σ H _ us Q I r ⟨ρ,S,[x],R,.cons hv .nil,h⟩
 | true=>
  rw[e]at h;exact KZ pins s σ H _ us Q I r ⟨ρ,S,[x],R,.cons hv .nil,h⟩
end
abbrev RS.post (r:RS)(N:ad->jd->Prop)(T:A->jd->Prop)(B C:ad->jd->Prop)(E:Str->jd->Prop):Prop:=match r with
 | .nx τ S=>N τ S
 | .rt a S=>T a S
 | .bk τ S=>B τ S
 | .ct τ S=>C τ S
 | .ex c S=>E c S
 | .no=>False
abbrev RS.of {α:Type}(r:R α)(f:α->jd->RS):RS:=match r with
 | .ok a S=>f a S
 | .ex c S=>.ex c S
 | .no=>.no
def of_post{α:Type}{r:R α}{f:α->jd->RS}{N B C:ad->jd->Prop}{T:A->jd->Prop}{E:Str->jd->Prop}(h:(RS.of r f).post N T B C E):r.post (λa S=>(f a S).post N T B C E) E:=by
 cases r<;>exact h
def RS.mono{r:RS}{N B C N' B' C':ad->jd->Prop}{T T':A->jd->Prop}{E E':Str->jd->Prop}(h:r.post N T B C E)(hn:∀τ S,N τ S->N' τ S)(ht:∀a S,T a S->T' a S)(hb:∀τ S,B τ S->B' τ S)(hc:∀τ S,C τ S->C' τ S)(he:∀c S,E c S->E' c S):r.post N' T' B' C' E':=by
 cases r with
 | nx τ S=>exact hn _ _ h
 | rt a S=>exact ht _ _ h
 | bk τ S=>exact hb _ _ h
 | ct τ S=>exact hc _ _ h
 | ex c S=>exact he _ _ h
 | no=>exact h.elim
abbrev DK (X:Cx)(ρ:ar)(H:Hp)(N:L2.St->Hp->Prop):ad->jd->Prop:=λτ' S'=>∀ρ' H' σ',Ext ρ ρ' H H'->Rel X.K ρ' H' S'->SR X.K ρ' H' τ' σ'->N σ' H'
def DK.ext{X:Cx}{H H':Hp}{N:L2.St->Hp->Prop}(h:DK X ρ H N τ S)(e:Ext ρ ρ' H H'):DK X ρ' H' N τ S:=λρ2 H2 σ2 e2=>h ρ2 H2 σ2 (e.trans e2)
abbrev xP (X:Cx)(ρ:ar)(H:Hp)(D:Ends)(r:RS):Prop:=r.post (DK X ρ H D.nx) (vR X ρ H D.rt) (DK X ρ H D.bk) (DK X ρ H D.ct) (XE X ρ H)
def xP.ext{X:Cx}{H H':Hp}{D:Ends}{r:RS}(h:xP X ρ H D r)(e:Ext ρ ρ' H H'):xP X ρ' H' D r:=RS.mono h (λ_ _ z=>z.ext e) (λ_ _ z=>z.ext e) (λ_ _ z=>z.ext e) (λ_ _ z=>z.ext e) λ_ _ z=>z.ext e
abbrev tS (X:Cx)(c:Sm):TS:=λD σ H=>∃ρ S τ,Rel X.K ρ H S/\SR X.K ρ H τ σ/\xP X ρ H D (c τ S)
abbrev AS (X:Cx)(st:aF)(c:Sm):Prop:=PS X st (tS X c)
abbrev LS (X:Cx)(sts:List aF)(c:Sm):Prop:=zw X sts (tS X c)
abbrev tG (X:Cx)(g:Tg):TG:=λv σ H Q=>∃ρ S τ a,Rel X.K ρ H S/\SR X.K ρ H τ σ/\AV X.K ρ H a v/\(g a τ S).post (DK X ρ H Q) (XE X ρ H)
abbrev AG (X:Cx)(e:aE)(g:Tg):Prop:=PG X e (tG X g)
meta abbrev KH:=ad->ad->jd->R (ad)
abbrev V1 (X:Cx)(g:KH):M9:=λvs σ H Q=>∃ρ S τ as,Rel X.K ρ H S/\SR X.K ρ H τ σ/\AVs X.K ρ H as vs/\(g as τ S).post (DK X ρ H Q) (XE X ρ H)
abbrev SV (X:Cx)(es:List aE)(g:KH):Prop:=Rv X es (V1 X g)
section
variable {X:Cx}{pos:Pos}{a b e:aE}{st:aF}{rest:List aF}{c d:Sm}
def PS.imp{t t':TS}(h:PS X st t)(i:∀D σ H,t' D σ H->t D σ H):PS X st t':=λpins s σ H D I q=>h pins s σ H D I (i D σ H q)
def zw.imp{t t':TS}(h:zw X rest t)(i:∀D σ H,t' D σ H->t D σ H):zw X rest t':=λpins s σ H D I q=>h pins s σ H D I (i D σ H q)
def PG.imp{t t':TG}(h:PG X e t)(i:∀v σ H Q,t' v σ H Q->t v σ H Q):PG X e t':=λpins s σ H v u Q I r q=>h pins s σ H v u Q I r (i _ _ _ _ q)
abbrev jU (i:Nat):Tg:=λa τ S=>.ok (τ.set i a) S
def jC{i:Nat}{x:Str}(hN:X.N.Nodup)(hi:X.N[i]?=some x:=by rfl)(hx:Loc X.env.scope x:=by first|exact Or.inl rfl|exact Or.inr rfl)(hf:X.fn x=true\/X.env.scope.names.lookup x=some .local:=by first|exact .inl rfl|exact .inr rfl|assumption):AG X (.Name x pos) (jU i):=
 PG.imp (Ek hN hi hx hf) λv σ H Q ⟨ρ,S,τ,a,R,r,va,h⟩=>h ρ H _ .refl R (r.set va)
abbrev zJ:KH:=λas τ S=>match as with
 | []=>.ok τ S
 | _=>.no
abbrev qM (g:Tg)(gs:KH):KH:=λas τ S=>match as with
 | a::as=>(g a τ S).bind λτ1 S1=>gs as τ1 S1
 | []=>.no
def tF:SV X [] zJ:=λpins s σ H vs us Q I r ⟨ρ,S,τ,as,R,sr,va,h⟩=>LQ pins s σ H vs us Q I r (by
 cases va with
 | nil=>exact⟨rfl,h ρ H σ .refl R sr⟩
 | cons _ _=>exact h.elim)
def k6{g:Tg}{gs:KH}(h1:AG X e g)(h2:SV X es gs)(hs:(assignEach (e::es) X.env).map (·.2)=assign e X.env::(assignEach es X.env).map (·.2):=by rfl):SV X (e::es) (qM g gs):=
 λpins s σ H vs us Q I r ⟨ρ,S,τ,as,R,sr,va,h⟩=>IS h1 h2 hs pins s σ H vs us Q I r (by
  cases va with
  | nil=>exact h.elim
  | cons ha hr=>exact⟨_,_,rfl,ρ,S,τ,_,R,sr,ha,jb (jh h) .refl λτ1 S1 h1 ρ1 H1 σ1 e1 R1 sr1=>⟨ρ1,S1,τ1,_,R1,sr1,hr.ext e1,jb h1 e1 λ_ _ z=>z.ext e1⟩⟩)
abbrev zH (n:Nat)(gs:KH):Tg:=λa τ S=>match a with
 | .tup xs | .ktu xs=>gd (xs.length=n) (gs xs τ S)
 | _=>.no
def w9{k n:Nat}{gs:KH}(hc:X.calm=true)(h:SV X es gs)(hn:(assignEach es X.env).length=n:=by rfl)(hst:(assignEach es X.env).findIdx? (·.1)=none:=by rfl):AG X (.Tuple es k pos) (zH n gs):=
 PG.imp (Pg hc h hn hst) λv σ H Q h9=>by
  obtain⟨ρ,S,τ,a,R,r,va,h⟩:=h9
  cases va with
  | tup h1 r1=>
   obtain⟨hl,h⟩:=jv h;exact⟨_,_,rfl,mz.of h1,by rw[<- r1.length];exact hl,ρ,S,τ,_,R,r,r1,h⟩
  | ktu h1 r1=>
   obtain⟨hl,h⟩:=jv h;exact⟨_,_,rfl,.inr h1,by rw[<- r1.length];exact hl,ρ,S,τ,_,R,r,r1,h⟩
  | _=>exact h.elim
abbrev z_ (o i v:A)(S:jd):R Unit:=match o,i with
 | .ref n,.int k=>opt (i_ S n) λxs=>opt (vh xs.length k) λj=>.ok Unit.unit (S.set n (.lst (xs.set j v)))
 | _,_=>.no
abbrev VT (X:Cx):Cg:=λo i v H Q=>∃ρ S ao ai av,Rel X.K ρ H S/\AV X.K ρ H ao o/\AV X.K ρ H ai i/\AV X.K ρ H av v/\(z_ ao ai av S).post (λ_ S'=>∀ρ' H',Ext ρ ρ' H H'->Rel X.K ρ' H' S'->Q H') (XE X ρ H)
def Ej:F1 X (VT X):=λpins s σ H o i v ov iv u Q I ro ri rv h9=>by
 obtain⟨ρ,S,ao,ai,av,R,h1,h2,h3,h⟩:=h9
 cases h1 with
 | @ref p n hp=>
  cases h2 with
  | int k=>
   kt_k;obtain⟨j,hj,h⟩:=je h;obtain⟨vs,e,r⟩:=R.lst hp (jn hn);obtain⟨ex,R'⟩:=R.put hp (jn hn) (r.set h3 j);exact set_list pins s σ H _ _ v ov iv u Q I ro ri rv ⟨p,vs,k,j,rfl,rfl,e,by rw[<- r.length];exact hj,h _ _ ex R'⟩
  | _=>exact h.elim
 | _=>exact h.elim
abbrev QE (co ci:Ex):Tg:=λa τ S=>(co τ S).bind λo S1=>(ci τ S1).bind λi S2=>(z_ o i a S2).bind λ_ S3=>.ok τ S3
def yK{co ci:Ex}(ho:AE X o co)(hi:AE X i ci)
  (ha:∀v,assign (.Subscript o i pos) X.env v=(do
   let ov <- holding [v] (eval o X.env)
   let iv <- holding [v,ov] (eval i X.env)
   standAt pos
   holding [v,ov,iv] (setItem ov iv v)
   release [v,ov,iv] []):=by intro _;rfl):AG X (.Subscript o i pos) (QE co ci):=PG.imp (Ga ho hi Ej ha) λv σ H Q h9=>by
 obtain⟨ρ,S,τ,a,R,r,va,h⟩:=h9;refine⟨ρ,S,τ,R,r,jb (jh h) .refl λo S1 h1 ρ1 H1 x e1 R1 v1=>⟨ρ1,S1,τ,R1,r.ext e1,jb (jh h1) e1 λi S2 h2 ρ2 H2 y e2 R2 v2=>?_⟩⟩;refine⟨ρ2,S2,o,i,a,R2,v1.ext e2,v2,va.ext (e1.trans e2),jb (jh h2) (e1.trans e2) λ_ S3 h3 ρ3 H3 e3 R3=>?_⟩;exact h3 ρ3 H3 σ ((e1.trans e2).trans e3) R3 (r.ext ((e1.trans e2).trans e3))
abbrev m_:Sm:=λτ S=>.nx τ S
abbrev jF (c d:Sm):Sm:=λτ S=>match c τ S with
 | .nx τ' S'=>d τ' S'
 | r=>r
def jX:LS X [] m_:=zw.imp Me λD σ H ⟨ρ,S,τ,R,r,h⟩=>h ρ H σ .refl R r
def Lj{D:Ends}{H:Hp}(h:tS X (jF c d) D σ H):RE (tS X c) (tS X d) D σ H:=by
 kpc_g;refine⟨ρ,S,τ,R,r,?_⟩;unfold jF at h
 cases hc:c τ S with
 | nx τ1 S1=>
  rw[hc]at h;exact λρ1 H1 σ1 e1 R1 r1=>⟨ρ1,S1,τ1,R1,r1,xP.ext h e1⟩
 | rt a S1=>rw[hc]at h;exact h
 | bk τ1 S1=>rw[hc]at h;exact h
 | ct τ1 S1=>rw[hc]at h;exact h
 | ex x S1=>rw[hc]at h;exact h
 | no=>rw[hc]at h;exact h
def jf(h1:AS X st c)(h2:LS X rest d):LS X (st::rest) (jF c d):=zw.imp (Jl h1 h2) λD σ H h=>Lj h
def ji(h1:AS X st c):LS X [st] c:=KU h1
abbrev Pp:Sm:=λτ S=>.bk τ S
abbrev RP:Sm:=λτ S=>.ct τ S
abbrev uQ (e:Ex):Sm:=λτ S=>.of (e τ S) λ_ S1=>.nx τ S1
def qU{f:Ex}(he:AE X e f)(hs:swapsWith e none pos.line X.env=pure false:=by rfl):AS X (.Expr e pos) (uQ f):=PS.imp (KR he hs) λD σ H ⟨ρ,S,τ,R,r,h⟩=>
 ⟨ρ,S,τ,R,r,jb (of_post h) .refl λa S1 h1 ρ1 H1 x e1 R1 v1=>h1 ρ1 H1 σ e1 R1 (r.ext e1)⟩
abbrev kg (e:Ex):Sm:=λτ S=>.of (e τ S) λa S1=>.rt a S1
def jH{f:Ex}(he:AE X e f):AS X (.Return (some e) pos) (kg f):=PS.imp (OD he) λD σ H ⟨ρ,S,τ,R,r,h⟩=>⟨ρ,S,τ,R,r,jb (of_post h) .refl λa S1 h1=>h1⟩
abbrev HF:Sm:=λτ S=>.rt .non S
def Mm:AS X (.Return none pos) HF:=PS.imp Mq λD σ H ⟨ρ,S,τ,R,r,h⟩=>h ρ H _ .refl R .non
abbrev uK (t:Te)(c d:Sm):Sm:=λτ S=>.of (t τ S) λb S1=>match b with|true=>c τ S1|false=>d τ S1
def mE{t:Te}(ht:AT X e t)(ha:LS X ca c)(hb:LS X cb d):AS X (.If e ca cb pos) (uK t c d):=PS.imp (Rt ht ha hb) λD σ H h9=>by
 room;refine⟨ρ,S,τ,R,r,jb (of_post h) .refl λb S1 h1 ρ1 H1 e1 R1=>?_⟩
 cases b with
 | true=>rw[aN rfl];exact⟨ρ1,S1,τ,R1,r.ext e1,xP.ext h1 e1⟩
 | false=>rw[aM bq];exact⟨ρ1,S1,τ,R1,r.ext e1,xP.ext h1 e1⟩
abbrev j7 (e:Ex)(g:Tg):Sm:=λτ S=>.of (e τ S) λa S1=>.of (g a τ S1) λτ' S2=>.nx τ' S2
def LN{f:Ex}{g:Tg}{D:Ends}{H:Hp}(h:tS X (j7 f g) D σ H):Le (tE X f) (tG X g) D σ H:=by
 kpc_g;exact⟨ρ,S,τ,R,r,jb (of_post h) .refl λa S1 h1 ρ1 H1 x e1 R1 v1=>⟨ρ1,S1,τ,a,R1,r.ext e1,v1,jb (of_post h1) e1 λτ2 S2 h2=>DK.ext h2 e1⟩⟩
def zj{tg:aE}{f:Ex}{g:Tg}(he:AE X e f)(hg:AG X tg g)(hs:swapsWithSole [tg] e pos.line X.env=pure false:=by rfl)(hw:swappedStores [tg] e X.env=pure none:=by rfl)
  (h1:(assignEach [tg] X.env).map (·.2)=[assign tg X.env]:=by rfl):AS X (.Assign [tg] e pos) (j7 f g):=PS.imp (OL he hg hs hw h1) λD σ H h=>LN h
def jL{i:Nat}{x:Str}{f:Ex}(hN:X.N.Nodup)(he:AE X e f)(hi:X.N[i]?=some x:=by rfl)(hx:Loc X.env.scope x:=by first|exact Or.inl rfl|exact Or.inr rfl)(hs:swapsWith e (some (.Name x pos')) pos.line X.env=pure false:=by rfl)(hf:X.fn x=true\/X.env.scope.names.lookup x=some .local:=by first|exact .inl rfl|exact .inr rfl|assumption) :
  AS X (.Assign [.Name x pos'] e pos) (j7 f (jU i)):=PS.imp (OI hN hi hx he hs hf) λD σ H ⟨ρ,S,τ,R,r,h⟩=>
 ⟨ρ,S,τ,R,r,jb (of_post h) .refl λa S1 h1 ρ1 H1 x e1 R1 v1=>h1 ρ1 H1 _ e1 R1 ((r.ext e1).set v1)⟩
abbrev T8 (i j:Nat)(c:pO):Sm:=λτ S=>.of (c τ S) λas S1=>match as with
 | [a,b]=>.nx ((τ.set i a).set j b) S1
 | _=>.no
abbrev ip (X:Cx)(f:A->A->jd->R A):O3:=λx y H Q=>∃ρ S a b,Rel X.K ρ H S/\AV X.K ρ H a x/\AV X.K ρ H b y/\(f a b S).post (vR X ρ H Q) (XE X ρ H)
abbrev BF (a b:A)(S:jd):R A:=match a,b with
 | .int i,.int j=>.ok (.int (i+j)) S
 | _,_=>.no
def yy:M5 X .Add (ip X BF):=λpins s σ H x y v u Q I r1 r2 h9=>by
 z_go
 cases va with
 | int i=>
  cases vb with
  | int j=>exact Oa pins s σ H _ _ v u Q I r1 r2 ⟨i,j,rfl,rfl,h _ _ _ .refl R (.int _)⟩
  | _=>exact h.elim
 | _=>exact h.elim
def Lg:M5 X .Sub (ip X aSub):=λpins s σ H x y v u Q I r1 r2 h9=>by
 z_go
 cases va with
 | int i=>
  cases vb with
  | int j=>exact O0 pins s σ H _ _ v u Q I r1 r2 ⟨i,j,rfl,rfl,h _ _ _ .refl R (.int _)⟩
  | _=>exact h.elim
 | _=>exact h.elim
abbrev IK (i:Nat)(f:A->A->jd->R A)(e:Ex):Sm:=λτ S=>if (τ.getD i .unb).ni then .no else .of (e τ S) λb S1=>.of (f (τ.getD i .unb) b S1) λc S2=>.nx (τ.set i c) S2
def Qq{i:Nat}{x:Str}{c:Ex}{f:A->A->jd->R A}(hN:X.N.Nodup)(he:AE X e c)(ho:M5 X op (ip X f))(hi:X.N[i]?=some x:=by rfl)(hx:Loc X.env.scope x:=by first|exact Or.inl rfl|exact Or.inr rfl)(hf:X.fn x=true\/X.env.scope.names.lookup x=some .local:=by first|exact .inl rfl|exact .inr rfl|assumption) :
  AS X (.AugAssign (.Name x pos') op e pos) (IK i f c):=PS.imp (OO hN hi hx he ho hf) λD σ H h9=>by
 room;have key:∀x,τ[i]?=some x->x.ni=false->(RS.of (c τ S) λb S1=>.of (f x b S1) λc S2=>.nx (τ.set i c) S2).post (DK X ρ H D.nx) (vR X ρ H D.rt) (DK X ρ H D.bk) (DK X ρ H D.ct) (XE X ρ H) ->
   ∃x,σ[i]?=some (some x)/\tE X c σ H λy H1=>ip X f x y H1 λz H2=>D.nx (σ.set i (some z)) H2:=by
  intro x hi hx h
  rcases r.at i x hi with z|⟨v,e,q⟩
  ·subst z;cases hx
  ·refine⟨v,e,ρ,S,τ,R,r,jb (of_post h) .refl λb S1 h1 ρ1 H1 y e1 R1 v1=>⟨ρ1,S1,x,b,R1,q.ext e1,v1,jb (of_post h1) e1 λw S2 h2 ρ2 H2 z e2 R2 v2=>?_⟩⟩;exact h2 ρ2 H2 _ (e1.trans e2) R2 ((r.ext (e1.trans e2)).set v2)
 unfold IK xP at h;rw[aI]at h
 cases hi:τ[i]? with
 | none=>rw[hi]at h;exact h.elim
 | some x=>
  rw[hi]at h
  cases hx:x.ni with
  | true=>rw[show(some x).getD .unb=x from rfl,hx]at h;exact h.elim
  | false=>rw[show(some x).getD .unb=x from rfl,hx]at h;exact key x hi hx h
abbrev Jf (a b:A)(S:jd):R A:=match a,b with
 | .ref n,.int i=>opt (i_ S n) λxs=>gd (0<=i) (opt (xs[i.toNat]?) λx=>.ok x S)
 | _,_=>.no
def Lr:PD X (r2 X Jf):=λpins s σ H o i ov iv Q I ro ri h9=>by
 z_go
 cases va with
 | @ref p n hp=>
  cases vb with
  | int k=>
   kt_k;obtain⟨h0,h⟩:=jv h;obtain⟨x,hx,h⟩:=je h;obtain⟨vs,h1,r1⟩:=R.lst hp (jn hn);obtain⟨z,e,q⟩:=r1.get hx;exact Ji pins s σ H _ _ ov iv Q I ro ri ⟨p,vs,k,z,rfl,rfl,mw.of h1,h0,e,h _ _ _ .refl R q⟩
  | _=>exact h.elim
 | _=>exact h.elim
abbrev uN (co ci ce:Ex)(f:A->A->jd->R A):Sm:=λτ S=>.of (co τ S) λo S1=>.of (ci τ S1) λi S2=>.of (Jf o i S2) λx S3=>.of (ce τ S3) λy S4=>.of (f x y S4) λz S5=>.of (z_ o i z S5) λ_ S6=>.nx τ S6
def zh{co ci ce:Ex}{f:A->A->jd->R A}(ho:AE X o co)(hi:AE X i ci)(he:AE X e ce)(hp:M5 X op (ip X f))
  (ha:∀ov iv new,augStore i ov iv new=(do holding [new,ov,iv] (setItem ov iv new);release [new,ov,iv] [];pure .next):=by intros;rfl):AS X (.AugAssign (.Subscript o i tpos) op e pos) (uN co ci ce f):=
 PS.imp (K6 ho hi Lr he hp Ej ha) λD σ H h9=>by
  room;refine⟨ρ,S,τ,R,r,jb (of_post h) .refl λao S1 h1 ρ1 H1 vo e1 R1 v1=>⟨ρ1,S1,τ,R1,r.ext e1,jb (of_post h1) e1 λai S2 h2 ρ2 H2 vi e2 R2 v2=>?_⟩⟩;refine⟨ρ2,S2,ao,ai,R2,v1.ext e2,v2,jb (of_post h2) (e1.trans e2) λax S3 h3 ρ3 H3 vx e3 R3 v3=>?_⟩;have e13:=(e1.trans e2).trans e3;refine⟨ρ3,S3,τ,R3,r.ext e13,jb (of_post h3) e13 λay S4 h4 ρ4 H4 vy e4 R4 v4=>?_⟩;refine⟨ρ4,S4,ax,ay,R4,v3.ext e4,v4,jb (of_post h4) (e13.trans e4) λaz S5 h5 ρ5 H5 vz e5 R5 v5=>?_⟩;have e35:=(e3.trans e4).trans e5;refine⟨ρ5,S5,ao,ai,az,R5,v1.ext (e2.trans e35),v2.ext e35,v5,jb (of_post h5) ((e13.trans e4).trans e5) λ_ S6 h6 ρ6 H6 e6 R6=>?_⟩;have e16:=((e13.trans e4).trans e5).trans e6;exact h6 ρ6 H6 σ e16 R6 (r.ext e16)
abbrev kT (t:Te)(c:Sm):Nat->Sm
 | 0=>λ_ _=>.no
 | n+1=>λτ S=>.of (t τ S) λb S1=>match b with
  | false=>.nx τ S1
  | true=>match c τ S1 with
   | .nx τ' S'=>kT t c n τ' S'
   | .ct τ' S'=>kT t c n τ' S'
   | .bk τ' S'=>.nx τ' S'
   | r=>r
def vN(n:Nat){t:Te}(hp:PassesOwn (model X.prog X.w) X.A X.env X.xe)(ht:AT X e t)(hb:LS X body c):AS X (.While e body [] pos) (kT t c n):=PS.imp (J_ hp ht hb) λD σ H h9=>by
 room;refine⟨λm σ' H'=>∃ρ' S' τ',Ext ρ ρ' H H'/\Rel X.K ρ' H' S'/\SR X.K ρ' H' τ' σ'/\xP X ρ' H' D (kT t c m τ' S'),⟨n,ρ,S,τ,.refl,R,r,h⟩,?_⟩;rintro m σ1 H1 ⟨ρ1,S1,τ1,e1,R1,r1,h1⟩
 cases m with
 | zero=>exact h1.elim
 | succ m=>
  refine⟨ρ1,S1,τ1,R1,r1,jb (of_post h1) .refl λb S2 h2 ρ2 H2 e2 R2=>?_⟩
  cases b with
  | false=>rw[aM bq];exact h2 ρ2 H2 σ1 e2 R2 (r1.ext e2)
  | true=>
   rw[aN rfl];refine⟨λσ' H'=>∃ρ' S' τ',Ext ρ ρ' H H'/\Rel X.K ρ' H' S'/\SR X.K ρ' H' τ' σ'/\xP X ρ' H' D (kT t c m τ' S'),λσ' H' z=>⟨m,cP _,z⟩,ρ2,S2,τ1,R2,r1.ext e2,?_⟩;have h2:xP X ρ1 H1 D (match c τ1 S2 with
    | .nx τ' S'=>kT t c m τ' S'
    | .ct τ' S'=>kT t c m τ' S'
    | .bk τ' S'=>.nx τ' S'
    | r=>r):=h2
   cases hc:c τ1 S2 with
   | nx τ3 S3=>rw[hc]at h2;exact λρ3 H3 σ3 e3 R3 r3=>⟨ρ3,S3,τ3,(e1.trans e2).trans e3,R3,r3,xP.ext h2 (e2.trans e3)⟩
   | ct τ3 S3=>rw[hc]at h2;exact λρ3 H3 σ3 e3 R3 r3=>⟨ρ3,S3,τ3,(e1.trans e2).trans e3,R3,r3,xP.ext h2 (e2.trans e3)⟩
   | bk τ3 S3=>rw[hc]at h2;exact DK.ext h2 e2
   | rt a S3=>rw[hc]at h2;exact vR.ext h2 e2
   | ex x S3=>rw[hc]at h2;exact XE.ext h2 e2
   | no=>rw[hc]at h2;exact h2
end
structure Src where
 k:Nat
 get:Nat->jd->Option A
 fin:jd->Bool
structure JR (K:au)(s:Src)(J:It)(ρ0:ar)(H0:Hp):Prop where
 go:∀(i:Nat) (S:jd) (H:Hp) (ρ:ar) (x:A),Ext0 ρ0 ρ H0 H->Rel K ρ H S->s.get i S=some x->J.go i H/\∀v H',J.yld i H v H'->Ext ρ ρ H H'/\Rel K ρ H' S/\AV K ρ H' x v
 stop:∀(S:jd) (H:Hp) (ρ:ar),Ext0 ρ0 ρ H0 H->Rel K ρ H S->s.fin S=true->J.stop s.k H
meta abbrev Ic:=ad->jd->R Src
abbrev tI (X:Cx)(c:Ic):TI:=λσ H Q=>∃ρ S τ,Rel X.K ρ H S/\SR X.K ρ H τ σ/\(c τ S).post (λs S'=>∀ρ' H' J,Ext ρ ρ' H H'->Rel X.K ρ' H' S'->JR X.K s J ρ' H'->Q J H') (XE X ρ H)
abbrev AI (X:Cx)(tg iter:aE)(c:Ic):Prop:=PI X tg iter (tI X c)
abbrev mV (xs:ad):Src:=⟨xs.length,λi _=>xs[i]?,λ_=>true⟩
abbrev l8 (n k:Nat):Src:=⟨k,λi S=>(i_ S n).bind (·[i]?),λS=>match i_ S n with
 | some ys=>decide (ys.length<=k)
 | none=>false⟩
abbrev ki (lo hi:Int):Src:=⟨(hi-lo).toNat,λi _=>if i<(hi-lo).toNat then some (.int (lo+i))else none,λ_=>true⟩
abbrev qi (c:Ex):Ic:=λτ S=>(c τ S).bind λa S1=>match a with
 | .tup xs=>.ok (mV xs) S1
 | .frz xs=>.ok (mV xs) S1
 | .ref n=>opt (i_ S1 n) λxs=>.ok (l8 n xs.length) S1
 | .str x=>gd (x.cps.all (· < 128)=true) (.ok (mV (x.cps.toList.map λc=>.str ⟨#[c]⟩)) S1)
 | _=>.no
section
variable {X:Cx}{pos:Pos}{tg e a b:aE}
def Ou{K:au}{H0:Hp}{p:ak}(h:mz K H0 p vs)(r:AVs K ρ0 H0 xs vs):JR K (mV xs) (UY K p) ρ0 H0 where
 go:=λi S H ρ x e R g=>by
  obtain⟨v,ev,av⟩:=(AVs.kM e r).get g;have hs:=e.Vm h;refine⟨⟨vs,v,hs,ev⟩,λw H' ⟨e1,y⟩=>?_⟩;subst e1;have:=y vs hs;rw[ev]at this
  cases this
  exact⟨.refl,R,av⟩
 stop:=λS H ρ e R _=>⟨vs,e.Vm h,by rw[<- r.length];exact aP _⟩
def O7{K:au}{H0:Hp}{p:ak}(h:Fz K H0 p vs)(r:AVs K ρ0 H0 xs vs):JR K (mV xs) (Tf K p) ρ0 H0 where
 go:=λi S H ρ x e R g=>by
  obtain⟨v,ev,av⟩:=(AVs.kM e r).get g;have hs:=(e.fz h).II;refine⟨⟨vs,v,hs,ev⟩,λw H' ⟨e1,y⟩=>?_⟩;subst e1;have:=y vs hs;rw[ev]at this
  cases this
  exact⟨.refl,R,av⟩
 stop:=λS H ρ e R _=>⟨vs,(e.fz h).II,by rw[<- r.length];exact aP _⟩
def Pc{K:au}{ρ0:ar}{H0:Hp}{p:ak}{n k:Nat}(h:ρ0[n]?=some p):JR K (l8 n k) (Tf K p) ρ0 H0 where
 go:=λi S H ρ x e R g=>by
  obtain⟨ys,hn,hx⟩:=cM.mp (show(i_ S n).bind (·[i]?)=some x from g);obtain⟨vs,h1,r⟩:=R.lst (e.get h) (jn hn);obtain⟨v,ev,av⟩:=r.get hx;refine⟨⟨vs,v,mw.of h1,ev⟩,λw H' ⟨e1,y⟩=>?_⟩;subst e1;have:=y vs (mw.of h1);rw[ev]at this
  cases this
  exact⟨.refl,R,av⟩
 stop:=λS H ρ e R g=>by
  have g:(match i_ S n with
   | some ys=>decide (ys.length<=k)
   | none=>false)=true:=g
  cases hn:i_ S n with
  | none=>rw[hn]at g;cases g
  | some ys=>
   rw[hn]at g;obtain⟨vs,h1,r⟩:=R.lst (e.get h) (jn hn);exact⟨vs,mw.of h1,by rw[<- r.length];exact c8 g⟩
def JD{K:au}{H0:Hp}{lo hi:Int}:JR K (ki lo hi) (SA lo (hi-lo).toNat) ρ0 H0 where
 go:=λi S H ρ x e R g=>by
  have g:(if i<(hi-lo).toNat then some (A.int (lo+i))else none)=some x:=g;by_cases hi':i<(hi-lo).toNat
  ·rw[aN hi']at g
   cases g
   refine⟨hi',λw H' ⟨e1,y⟩=>?_⟩;subst e1 y;exact⟨.refl,R,.int _⟩
  ·rw[aM hi']at g;cases g
 stop:=λS H ρ e R _=>aP _
def N6{K:au}{H0:Hp}{x:Str}:JR K (mV (x.cps.toList.map λc=>A.str ⟨#[c]⟩)) (Um x) ρ0 H0 where
 go:=λi S H ρ y e R g=>by
  have g:(x.cps.toList.map λc=>A.str ⟨#[c]⟩)[i]?=some y:=g;rw[aT]at g;obtain⟨c,hc,rfl⟩:=br.mp g;rw[eY]at hc;refine⟨(Array.getElem?_eq_some_iff.mp hc).1,λw H' ⟨e1,c',hc',y'⟩=>?_⟩;rw[hc]at hc'
  cases hc'
  subst e1 y';exact⟨.refl,R,.str _⟩
 stop:=λS H ρ e R _=>by
  show(x.cps.toList.map λc=>A.str ⟨#[c]⟩).length=x.cps.size;rw[aK,cJ]
def rT{c:Ex}(he:AE X e c):AI X tg e (qi c):=λpins s σ H Q I h9=>by
 room;have hb:=jh h
 cases hc:c τ S with
 | no=>rw[hc]at hb;exact hb.elim
 | ex x S1=>
  rw[hc]at hb;exact J7 he pins s σ H Q I ⟨ρ,S,τ,R,r,by rw[hc];exact hb⟩
 | ok a S1=>
  rw[hc]at hb
  cases a with
  | tup xs=>
   refine J7 he pins s σ H Q I ⟨ρ,S,τ,R,r,?_⟩;rw[hc];intro ρ1 H1 x e1 R1 v1
   cases v1 with
   | tup h1 r1=>exact⟨_,rfl,⟨_,(mz.of h1)⟩,hb ρ1 H1 _ e1 R1 (Ou (mz.of h1) r1)⟩
  | frz xs=>
   refine DX he pins s σ H Q I ⟨ρ,S,τ,R,r,?_⟩;rw[hc];intro ρ1 H1 x e1 R1 v1
   cases v1 with
   | frz h1 r1=>exact⟨_,rfl,⟨_,h1.II⟩,hb ρ1 H1 _ e1 R1 (O7 h1 r1)⟩
  | ref n=>
   obtain⟨xs,hn,hb⟩:=je hb;refine DX he pins s σ H Q I ⟨ρ,S,τ,R,r,?_⟩;rw[hc];intro ρ1 H1 x e1 R1 v1
   cases v1 with
   | ref hp=>
    obtain⟨vs,h1,r1⟩:=R1.lst hp (jn hn);exact⟨_,rfl,⟨_,mw.of h1⟩,hb ρ1 H1 _ e1 R1 (Pc hp)⟩
  | str x=>
   obtain⟨ha,hb⟩:=jv hb;refine Qi he pins s σ H Q I ⟨ρ,S,τ,R,r,?_⟩;rw[hc];intro ρ1 H1 v e1 R1 v1
   cases v1 with
   | str=>exact⟨x,rfl,ha,hb ρ1 H1 _ e1 R1 N6⟩
  | _=>exact hb.elim
abbrev bnd (i:Int):Prop:=-(2 ^ 62)<=i/\i<2 ^ 62
instance (i:Int):Decidable (bnd i):=by unfold bnd;infer_instance
abbrev pK (c:Ex):Ic:=λτ S=>(c τ S).bind λa S1=>match a with
 | .int j=>gd (bnd j) (.ok (ki 0 j) S1)
 | _=>.no
abbrev ng (c d:Ex):Ic:=λτ S=>(c τ S).bind λa S1=>(d τ S1).bind λb S2=>match a,b with
 | .int i,.int j=>gd (bnd i/\bnd j) (.ok (ki i j) S2)
 | _,_=>.no
def lQ{p:Pos}{c:Ex}(hm:X.mg "range" = none)(ha:AE X a c)(hg:Gl X "range" := by rfl)(hs:starEach [a] X.env=[(false,eval a X.env)]:=by rfl):AI X tg (.Call (.Name "range" p) [a] [] pos) (pK c):=λpins s σ H Q I h9=>by
 room;refine Fy hg hm (qP ha vM hs) hs pins s σ H Q I ⟨ρ,S,τ,R,r,jb (jh h) .refl λx S1 h1 ρ1 H1 v e1 R1 v1=>?_⟩
 cases v1 with
 | int j=>
  obtain⟨hb,h1⟩:=jv h1;exact⟨_,rfl,hb.1,hb.2,by have:=h1 ρ1 H1 _ e1 R1 JD;rwa [Int.sub_zero]at this⟩
 | _=>exact h1.elim
def mZ{p:Pos}{c d:Ex}(hm:X.mg "range" = none)(ha:AE X a c)(hb:AE X b d)(hg:Gl X "range" := by rfl)(hs:starEach [a,b] X.env=[(false,eval a X.env),(false,eval b X.env)]:=by rfl)(hs2:starEach [b] X.env=[(false,eval b X.env)]:=by rfl):AI X tg (.Call (.Name "range" p) [a,b] [] pos) (ng c d):=λpins s σ H Q I h9=>by
 room;refine FJ hg hm (qP ha (qP hb vM hs2) (by rw[hs,hs2])) hs hs2 pins s σ H Q I ⟨ρ,S,τ,R,r,jb (jh h) .refl λx S1 h1 ρ1 H1 v e1 R1 v1=>⟨ρ1,S1,τ,R1,r.ext e1,jb (jh h1) e1 λy S2 h2 ρ2 H2 w e2 R2 v2=>?_⟩⟩
 cases v1 with
 | int i=>
  cases v2 with
  | int j=>
   obtain⟨hb,h2⟩:=jv h2;exact⟨_,_,rfl,⟨hb.1.1,hb.1.2,hb.2.1,hb.2.2⟩,h2 ρ2 H2 _ (e1.trans e2) R2 JD⟩
  | _=>exact h2.elim
 | _=>exact h2.elim
abbrev oB (s:Src)(g:Tg)(c:Sm):Nat->Nat->Sm
 | 0,_=>λτ S=>if s.fin S then .nx τ S else .no
 | k+1,i=>λτ S=>match s.get i S with
  | none=>.no
  | some x=>.of (g x τ S) λτ1 S1=>match c τ1 S1 with
   | .nx τ' S'=>oB s g c k (i+1) τ' S'
   | .ct τ' S'=>oB s g c k (i+1) τ' S'
   | .bk τ' S'=>.nx τ' S'
   | r=>r
abbrev nV (src:Ic)(g:Tg)(c:Sm):Sm:=λτ S=>.of (src τ S) λs S1=>oB s g c s.k 0 τ S1
def mP{iter:aE}{src:Ic}{g:Tg}{c:Sm}(hp:PassesOwn (model X.prog X.w) X.A X.env X.xe)(hc:X.calm=true)(hi:AI X tg iter src)(hg:AG X tg g)(hb:LS X body c)
  (hs:∀x,foldedSetIterable iter X.env x=pure x:=by intro _;rfl):AS X (.For tg iter body [] pos) (nV src g c):=PS.imp (NX hp hc hi hg hb hs) λD σ H h9=>by
 room;refine⟨ρ,S,τ,R,r,jb (of_post h) .refl λs S1 h1 ρ1 H1 J e1 R1 jr=>?_⟩;refine⟨λi m σ' H'=>m+i=s.k/\∃ρ' S' τ',Ext ρ1 ρ' H1 H'/\Rel X.K ρ' H' S'/\SR X.K ρ' H' τ' σ'/\xP X ρ' H' D (oB s g c m i τ' S'),⟨s.k,rfl,ρ1,S1,τ,.refl,R1,r.ext e1,xP.ext h1 e1⟩,?_⟩;rintro i m σ2 H2 ⟨hm,ρ2,S2,τ2,e2,R2,r2,h2⟩
 cases m with
 | zero=>
  left;have h2:xP X ρ2 H2 D (if s.fin S2 then .nx τ2 S2 else .no):=h2
  cases hf:s.fin S2 with
  | false=>rw[hf]at h2;exact h2.elim
  | true=>
   rw[hf]at h2;refine⟨by rw[show i=s.k by lia];exact jr.stop S2 H2 ρ2 e2.toExt0 R2 hf,h2 ρ2 H2 σ2 .refl R2 r2⟩
 | succ m=>
  right;have h2:xP X ρ2 H2 D (match s.get i S2 with
   | none=>.no
   | some x=>.of (g x τ2 S2) λτ1 S1=>match c τ1 S1 with
    | .nx τ' S'=>oB s g c m (i+1) τ' S'
    | .ct τ' S'=>oB s g c m (i+1) τ' S'
    | .bk τ' S'=>.nx τ' S'
    | r=>r):=h2
  cases hx:s.get i S2 with
  | none=>rw[hx]at h2;exact h2.elim
  | some x=>
   rw[hx]at h2;obtain⟨hgo,hy⟩:=jr.go i S2 H2 ρ2 x e2.toExt0 R2 hx;refine⟨hgo,λσ' H'=>m+(i+1)=s.k/\∃ρ' S' τ',Ext ρ1 ρ' H1 H'/\Rel X.K ρ' H' S'/\SR X.K ρ' H' τ' σ'/\xP X ρ' H' D (oB s g c m (i+1) τ' S'),λσ' H' z=>⟨m,cP _,z⟩,λv H3 y=>?_⟩;obtain⟨e3,R3,v3⟩:=hy v H3 y;refine⟨ρ2,S2,τ2,x,R3,r2.ext e3,v3,jb (of_post h2) e3 λτ4 S4 h4 ρ4 H4 σ4 e4 R4 r4=>⟨ρ4,S4,τ4,R4,r4,?_⟩⟩;have e24:=e3.trans e4
   cases hcc:c τ4 S4 with
   | nx τ5 S5=>rw[hcc]at h4;exact λρ5 H5 σ5 e5 R5 r5=>⟨(),ρ5,S5,τ5,(e2.trans e24).trans e5,R5,r5,xP.ext h4 (e24.trans e5)⟩
   | ct τ5 S5=>rw[hcc]at h4;exact λρ5 H5 σ5 e5 R5 r5=>⟨(),ρ5,S5,τ5,(e2.trans e24).trans e5,R5,r5,xP.ext h4 (e24.trans e5)⟩
   | bk τ5 S5=>rw[hcc]at h4;exact DK.ext h4 e24
   | rt x5 S5=>rw[hcc]at h4;exact vR.ext h4 e24
   | ex x5 S5=>rw[hcc]at h4;exact XE.ext h4 e24
   | no=>rw[hcc]at h4;exact h4
end
abbrev R.kQ {α β:Type}(r:R α)(f:α->jd->R β):R β:=match r with
 | .ok a S=>f a S
 | _=>.no
def j_{α β:Type}{r:R α}{f:α->jd->R β}{b:β}(h:r.kQ f=.ok b S2):∃a S,r=.ok a S/\f a S=.ok b S2:=by
 cases r with
 | ok a S=>exact⟨a,S,rfl,h⟩
 | ex _ _=>cases h
 | no=>cases h
def wY{α β:Type}{r:R α}{f:α->jd->R β}{P:β->jd->Prop}{E:Str->jd->Prop}(h:(r.kQ f).post P E):∃a S,r=.ok a S/\(f a S).post P E:=by
 cases r with
 | ok a S=>exact⟨a,S,rfl,h⟩
 | ex _ _=>exact h.elim
 | no=>exact h.elim
def Ca{α β:Type}{o:Option β}{f:β->R α}{a:α}(h:opt o f=.ok a S):∃b,o=some b/\f b=.ok a S:=by
 cases o with
 | none=>cases h
 | some b=>exact⟨b,rfl,h⟩
abbrev l5 (s:Src)(g:Tg)(t:Te)(e:Ex):Nat->Nat->ad->jd->R (ad)
 | 0,_=>λ_ S=>if s.fin S then .ok [] S else .no
 | k+1,i=>λτ S=>opt (s.get i S) λx=>(g x τ S).kQ λτ1 S1=>(t τ1 S1).kQ λb S2=>match b with
  | true=>(e τ1 S2).kQ λy S3=>(l5 s g t e k (i+1) τ1 S3).kQ λys S4=>.ok (y::ys) S4
  | false=>l5 s g t e k (i+1) τ1 S2
abbrev nJ (cap:List (bi))(τ:ad):ad:=cap.map λo=>match o with
 | some j=>τ.getD j .unb
 | none=>.unb
abbrev j8 (cap:List (bi))(src:Ic)(g:Tg)(t:Te)(e:Ex):Ex:=λτ S=>(src τ S).bind λs S1=>(l5 s g t e s.k 0 (nJ cap τ) S1).kQ λys S2=>newL ys S2
abbrev uS:Te:=λ_ S=>.ok true S
def Be{s:Src}{g:Tg}{t:Te}{e:Ex}{k:Nat}{T:Prop}(h:l5 s g t e (k+1) i τ S=.ok zs S')
  (q:∀x τ1 S1 b S2,s.get i S=some x->g x τ S=.ok τ1 S1->t τ1 S1=.ok b S2->(b=true->∃y S3 ws,e τ1 S2=.ok y S3/\l5 s g t e k (i+1) τ1 S3=.ok ws S'/\zs=y::ws)->(b=false->l5 s g t e k (i+1) τ1 S2=.ok zs S')->T):T:=by
 obtain⟨x,hx,h⟩:=Ca h;obtain⟨τ1,S1,h1,h⟩:=j_ h;obtain⟨b,S2,h2,h⟩:=j_ h;refine q x τ1 S1 b S2 hx h1 h2 (λhb=>?_) λhb=>?_
 ·subst hb;obtain⟨y,S3,h3,h⟩:=j_ h;obtain⟨ws,S4,h4,h⟩:=j_ h
  cases h
  exact⟨y,S3,ws,h3,h4,rfl⟩
 ·subst hb;exact h
structure Out (ρ1:ar)(H1:Hp)(D:ak)(accV:List V)(ρ:ar)(H:Hp):Prop where
 e0:Ext0 ρ1 ρ H1 H
 fr:∀a u,a≠D->H1 a=some u->a∉ρ1->H a=some u
 nw:∀a∈ρ,a∈ρ1\/H1 a=none
 nD:D∉ρ
 hD:H D=some (.lst accV)
def Out.stay{H1 H3 H7:Hp}{D:ak}(o:Out ρ1 H1 D accV ρ3 H3)(hD1:H1 D=none)(e7:Ext ρ3 ρ7 H3 H7):Out ρ1 H1 D accV ρ7 H7:=by
 refine⟨⟨o.e0.pre.trans e7.pre,λa u i h=>e7.im a u i (o.e0.im a u i h)⟩,λa u na hu nr=>e7.fr a u (o.fr a u na hu nr) λz=>(o.nw a z).elim nr λz=>by(rw[z]at hu;cases hu),λa ha=>?_,λz=>(e7.nw D z).elim o.nD λz=>by(rw[o.hD]at z;cases z),e7.fr D _ o.hD o.nD⟩;by_cases hr:a∈ρ1
 ·exact .inl hr
 ·right
  cases q:H1 a with
  | none=>rfl
  | some u=>
   have aD:a≠D:=ju q hD1
   rcases e7.nw a ha with z|z
   ·exact((o.nw a z).elim hr λz=>by(rw[z]at q;cases q)).elim
   ·rw[o.fr a u aD q hr]at z;cases z
def Out.put{H1 H:Hp}{D:ak}(o:Out ρ1 H1 D accV ρ H)(ex:Ext0 ρ ρ H (upd H D (.lst vs))):Out ρ1 H1 D vs ρ (upd H D (.lst vs)):=
 ⟨⟨o.e0.pre,λa u i h=>ex.im a u i (o.e0.im a u i h)⟩,λa u na hu nr=>by rw[jl na];exact o.fr a u na hu nr,o.nw,o.nD,jJ⟩
def Out.end{H1 H:Hp}{D:ak}(o:Out ρ1 H1 D accV ρ H)(hD:H1 D=none):Ext ρ1 (ρ++[D]) H1 H:=by
 refine⟨⟨o.e0.pre.trans (fW _ _),o.e0.im⟩,λa u hu na=>o.fr a u (ju hu hD) hu na,λa ha=>?_⟩
 rcases bh.mp ha with z|z
 ·exact o.nw a z
 ·have:a=D:=by simpa using z
  rw[this];exact .inr hD
abbrev Cq (K:au)(ρ1:ar)(H1:Hp)(D:ak)(ys:ad)(k:Nat)(E:ar->Hp->Prop)(P:Nat->Nat->ad->jd->ad->Prop)(i m:Nat)(σ:L2.St)(H:Hp):Prop:=
 m+i=k/\∃ρ S τ acc zs accV,Out ρ1 H1 D accV ρ H/\E ρ H/\Rel K ρ H S/\SR K ρ H τ σ/\AVs K ρ H acc accV/\P m i τ S zs/\acc++zs=ys
section
variable {K:au}{ρ1 ρ:ar}{H1 H:Hp}{D:ak}{ys acc zs:ad}{accV:List V}{k i m:Nat}{E:ar->Hp->Prop}{P:Nat->Nat->ad->jd->ad->Prop}{σ:L2.St}{S:jd}{τ:ad}
def Cq.el{T:Prop}(h:Cq K ρ1 H1 D ys k E P i m σ H)(q:∀ρ S τ acc zs accV,m+i=k->Out ρ1 H1 D accV ρ H->E ρ H->Rel K ρ H S->SR K ρ H τ σ->AVs K ρ H acc accV->P m i τ S zs->acc++zs=ys->T):T:=by
 obtain⟨hm,ρ,S,τ,acc,zs,accV,h1,h2,h3,h4,h5,h6,h7⟩:=h;exact q ρ S τ acc zs accV hm h1 h2 h3 h4 h5 h6 h7
def Cq.of(hm:m+i=k)(o:Out ρ1 H1 D accV ρ H)(e:E ρ H)(R:Rel K ρ H S)(r:SR K ρ H τ σ)(v:AVs K ρ H acc accV)(p:P m i τ S zs)(q:acc++zs=ys):Cq K ρ1 H1 D ys k E P i m σ H:=⟨hm,ρ,S,τ,acc,zs,accV,o,e,R,r,v,p,q⟩
end
abbrev Sd (K:au)(c:Ex):TE:=λσ H Q=>∃ρ S τ a S',Rel K ρ H S/\SR K ρ H τ σ/\c τ S=.ok a S'/\∀ρ' H' v,Ext ρ ρ' H H'->Rel K ρ' H' S'->AV K ρ' H' a v->Q v H'
abbrev Qn (K:au)(c:Te):TT:=λσ H Q=>∃ρ S τ a S',Rel K ρ H S/\SR K ρ H τ σ/\c τ S=.ok a S'/\∀ρ' H',Ext ρ ρ' H H'->Rel K ρ' H' S'->Q a H'
abbrev QA (K:au)(g:Tg):TG:=λv σ H Q=>∃ρ S τ a τ' S',Rel K ρ H S/\SR K ρ H τ σ/\AV K ρ H a v/\g a τ S=.ok τ' S'/\∀ρ' H' σ',Ext ρ ρ' H H'->Rel K ρ' H' S'->SR K ρ' H' τ' σ'->Q σ' H'
section
variable {X:Cx}{pos:Pos}{tg iter elt e:aE}{ifs:List aE}{scope:Scope}{N:am}{cap:List (bi)}{src:Ic}{g:Tg}{t:Te}{c:Ex}
def AE.e0{K:au}(hK:X.K=K)(h:AE X e c):PE X e (Sd K c):=PE.imp h λσ H Q ⟨ρ,S,τ,a,S',R,r,hc,q⟩=>⟨ρ,S,τ,by rw[hK];exact R,by rw[hK];exact r,by rw[hc];exact λρ' H' v e R' v'=>q ρ' H' v e (by rw[<- hK];exact R') (by rw[<- hK];exact v')⟩
def AT.t0{K:au}(hK:X.K=K)(h:AT X e t):PT X e (Qn K t):=PT.imp h λσ H Q ⟨ρ,S,τ,a,S',R,r,hc,q⟩=>⟨ρ,S,τ,by rw[hK];exact R,by rw[hK];exact r,by rw[hc];exact λρ' H' e R'=>q ρ' H' e (by rw[<- hK];exact R')⟩
def AG.g0{K:au}(hK:X.K=K)(h:AG X e g):PG X e (QA K g):=PG.imp h λv σ H Q ⟨ρ,S,τ,a,τ',S',R,r,va,hc,q⟩=>⟨ρ,S,τ,a,by rw[hK];exact R,by rw[hK];exact r,by rw[hK];exact va,by rw[hc];exact λρ' H' v e R' v'=>q ρ' H' v e (by rw[<- hK];exact R') (by rw[<- hK];exact v')⟩
abbrev QJ (X:Cx)(ifs:List aE)(t:Te):Prop:=KI X ifs (Qn X.K t)
def vd:QJ X [] uS:=λpins s σ H Q I ⟨ρ,S,τ,a,S',R,r,hc,q⟩=>Mz pins s σ H Q I (by cases hc;exact q ρ H .refl R)
def qQ(h:AT X e t):QJ X [e] t:=MA (h.t0 rfl)
def Nj{K:au}{H:Hp}(r:SR K ρ H τ σ)(cap:List (bi)):SR K ρ H (nJ cap τ) (cap.map (KY σ)):=by
 refine⟨by simp[nJ],λi a h=>?_⟩;unfold nJ at h;rw[aT]at h;obtain⟨o,ho,e⟩:=br.mp h
 cases o with
 | none=>exact .inl e.symm
 | some j=>
  have e:τ.getD j .unb=a:=e
  cases hj:τ[j]? with
  | none=>rw[aI,hj]at e;exact .inl e.symm
  | some b=>
   rw[aI,hj]at e;have e:b=a:=e;subst e
   rcases r.at j b hj with z|⟨v,h1,h2⟩
   ·exact .inl z
   ·exact .inr ⟨v,by rw[aT,ho];show some ((σ[j]?).getD none)=_;rw[h1];rfl,h2⟩
def Rel.HS{K:au}{H:Hp}{p:ak}(R:Rel K ρ H S)(hp:H p=none):p∉ρ:=λhm=>by
 obtain⟨n,hn,e⟩:=d7.mp hm;have hl:n<S.length:=by rw[<- R.len];exact hn
 have:=R.at n p S[n] (by rw[aG hn,e]) (aG hl)
 cases ho:S[n]with
 | lst xs=>rw[ho]at this;obtain⟨vs,h,_⟩:=this;rw[hp]at h;cases h
 | dct _|dki _=>rw[ho]at this;obtain⟨vs,h,_⟩:=this;rw[hp]at h;cases h
 | ins _ _=>rw[ho]at this;obtain⟨_,_,h⟩:=this;rw[hp]at h;cases h
def zU(σ:L2.St)(H:Hp)(Q:VK)(h:tE X (j8 cap src g t c) σ H Q):Q8 cap (tI X src) (QA X.K g) (Qn X.K t) (Sd X.K c) σ H Q:=by
 kpc_g;refine⟨ρ,S,τ,R,r,jb (jh h) .refl λs S1 h1 ρ1 H1 J e1 R1 jr D hD=>?_⟩;obtain⟨ys,S2,hcg,h1⟩:=wY h1;obtain⟨hlen,h1⟩:=jv h1;have h1:vR X ρ H Q (.ref S2.length) (S2++[.lst ys]):=h1;obtain⟨eD,RD⟩:=R1.im (u:=.lst []) hD;refine⟨Cq X.K ρ1 H1 D ys s.k (λ_ _=>True) λm i τ S zs=>l5 s g t c m i τ S=.ok zs S2,⟨s.k,.of rfl ⟨eD.toExt0,λa u na hu _=>by rw[jl na];exact hu,λa ha=>.inl ha,R1.HS hD,jJ⟩ trivial RD (Nj ((r.ext e1).ext eD) cap) .nil hcg rfl⟩,?_⟩;intro i m σ3 H3 hw;refine hw.el λρ3 S3 τ3 acc zs accV hm o3 _ R3 r3 ac3 cg3 eys=>?_;clear hw
 cases m with
 | zero=>
  left;have cg3:(if s.fin S3 then Am.R.ok [] S3 else .no)=.ok zs S2:=cg3
  cases hf:s.fin S3 with
  | false=>rw[hf]at cg3;cases cg3
  | true=>
   rw[hf]at cg3
   cases cg3
   rw[cA]at eys;subst eys;refine⟨by rw[show i=s.k by lia];exact jr.stop _ H3 ρ3 o3.e0 R3 hf,?_⟩;obtain⟨RT,gt⟩:=R3.take o3.hD o3.nD ac3;exact h1 (ρ3++[D]) H3 _ (e1.trans (o3.end hD)) RT (.ref gt)
 | succ m=>
  right;refine Be cg3 λx τ4 S4 b S5 hx hg4 ht5 hT hF=>?_;have jg:=jr.go i S3 H3 ρ3 x o3.e0 R3 hx;refine⟨jg.1,λv H4 y=>?_⟩;obtain⟨e4,R4,v4⟩:=jg.2 v H4 y;refine⟨ρ3,S3,τ3,x,τ4,S4,R4,r3.ext e4,v4,hg4,λρ5 H5 σ5 e5 R5 r5=>⟨ρ5,S4,τ4,b,S5,R5,r5,ht5,λρ6 H6 e6 R6=>?_⟩⟩;have e36:=(e4.trans e5).trans e6
  cases b with
  | false=>
   dsimp only;rw[aM bq];exact⟨m,cP _,.of () (o3.stay hD e36) trivial R6 (r5.ext e6) (ac3.ext e36) (hF rfl) eys⟩
  | true=>
   dsimp only;rw[aN rfl];obtain⟨y,S6,ws,he6,cg6,ezs⟩:=hT rfl;refine⟨ρ6,S5,τ4,y,S6,R6,r5.ext e6,he6,λρ7 H7 w e7 R7 v7=>?_⟩;have o7:=o3.stay hD (e36.trans e7);obtain⟨ex8,R8⟩:=R7.out (ws:=accV++[w]) o7.hD o7.nD;have l1:=ac3.length;refine⟨accV,o7.hD,?_,m,cP _,.of () (o7.put ex8) trivial R8 ((r5.ext (e6.trans e7)).kM ex8) (AVs.kM ex8 ((ac3.ext (e36.trans e7)).append (.one v7))) cg6 ?_⟩
   ·have:(acc++zs).length<=sizeLine:=by rw[eys];exact hlen
    rw[ezs,aU,bI]at this
    lia
   ·rw[bH,<- eys,ezs];rfl
def qR(hc:X.calm=true)(Sc:CpScope X scope N cap)(hi:AI X tg iter src)(hg:∀C s₀ H₀ ex,AG (jW X scope N C s₀ H₀ ex) tg g)(ht:∀C s₀ H₀ ex,QJ (jW X scope N C s₀ H₀ ex) ifs t)(he:∀C s₀ H₀ ex,AE (jW X scope N C s₀ H₀ ex) elt c)
  (hs:∀x,foldedSetIterable iter X.env x=pure x:=by intro _;rfl):AE X (.ListComp elt [⟨tg,iter,ifs,0⟩] scope pos) (j8 cap src g t c):=
 PE.imp (R_ hc Sc hi (g:=QA X.K g) (tc:=Qn X.K t) (te:=Sd X.K c) (λC s₀ H₀ ex=>(hg C s₀ H₀ ex).g0 rfl) (λC s₀ H₀ ex=>ht C s₀ H₀ ex) (λC s₀ H₀ ex=>(he C s₀ H₀ ex).e0 rfl) hs) zU
def DT{i:Nat}{x:Str}{spos:Pos}(hN:X.N.Nodup)(hc:X.calm=true)(Sc:CpScope X scope N cap)(hi:AI X tg iter src)(hg:∀C s₀ H₀ ex,AG (jW X scope N C s₀ H₀ ex) tg g)(ht:∀C s₀ H₀ ex,QJ (jW X scope N C s₀ H₀ ex) ifs t)(he:∀C s₀ H₀ ex,AE (jW X scope N C s₀ H₀ ex) elt c)
  (hi':X.N[i]?=some x:=by rfl) (hx:Loc X.env.scope x:=by first|exact Or.inl rfl|exact Or.inr rfl)
  (hsw:swapsWith (.ListComp elt [⟨tg,iter,ifs,0⟩] scope pos) (some (.Name x pos')) spos.line X.env=pure true:=by rfl) (hf:X.fn x=true\/X.env.scope.names.lookup x=some .local:=by first|exact .inl rfl|exact .inr rfl|assumption)
  (hs:∀x,foldedSetIterable iter X.env x=pure x:=by intro _;rfl):AS X (.Assign [.Name x pos'] (.ListComp elt [⟨tg,iter,ifs,0⟩] scope pos) spos) (j7 (j8 cap src g t c) (jU i)):=
 PS.imp (Gf hN hi' hx hc Sc hi (g:=QA X.K g) (tc:=Qn X.K t) (te:=Sd X.K c) (λC s₀ H₀ ex=>(hg C s₀ H₀ ex).g0 rfl) (λC s₀ H₀ ex=>ht C s₀ H₀ ex) (λC s₀ H₀ ex=>(he C s₀ H₀ ex).e0 rfl) hsw hf hs) λD σ H ⟨ρ,S,τ,R,r,h⟩=>
  zU σ H _ ⟨ρ,S,τ,R,r,jb (of_post h) .refl λa S1 h1 ρ1 H1 x e1 R1 v1=>h1 ρ1 H1 _ e1 R1 ((r.ext e1).set v1)⟩
end
abbrev A.lst? (S:jd):A->Option (ad)
 | .ref n=>i_ S n
 | _=>none
abbrev QG (f:A->ad->jd->R A)(co:Ex)(d:pO):Ex:=λτ S=>(co τ S).bind λo S1=>opt (o.lst? S1) λ_=>(d τ S1).bind λas S2=>f o as S2
abbrev OJ (f:A->ad->jd->R A)(co:Ex):Ex:=λτ S=>(co τ S).bind λo S1=>opt (o.lst? S1) λ_=>f o [] S1
abbrev rM (X:Cx)(f:A->ad->jd->R A):V->List V->Hp->VK->Prop:=λx vs H Q=>∃ρ S o as,Rel X.K ρ H S/\AV X.K ρ H o x/\AVs X.K ρ H as vs/\(f o as S).post (vR X ρ H Q) (XE X ρ H)
section
variable {X:Cx}{apos cpos:Pos}{o e:aE}{es:List aE}{name:Str}{id:String}{f:A->ad->jd->R A}{co:Ex}{d:pO}
def lst?_ty{K:au}{H:Hp}{x:A}{v:V}(R:Rel K ρ H S)(h:AV K ρ H x v)(e:x.lst? S=some xs):S_ K "list" v H:=by
 cases h with
 | ref h=>
  obtain⟨vs,h1,_⟩:=R.lst h (jn e);exact .inl ⟨rfl,vs,mw.of h1⟩
 | _=>cases e
def CT(slot:Slot "list" name id)(hty:typeOf (.builtin id)=pure (.type "method_descriptor"))(hm:KJ X id (rM X f))(ho:AE X o co)(ha:AL X (e::es) d)
  (hbase:attributeBase o name X.env (eval o X.env)=eval o X.env:=by rfl)
  (hfew:((backTo cpos (starEach (e::es) X.env)).all (λx=>!x.1) && (backToKw cpos (keywordEach [] X.env)).all (λx=>x.1.isSome)
   && decide ((e::es).length+([]:List Keyword).length+(if ([]:List Keyword).isEmpty then 0 else 1)<30))=true:=by rfl)
  (hline:(apos.endLine == cpos.line)=true:=by rfl) (hs:starEach (e::es) X.env=(false,eval e X.env)::starEach es X.env:=by rfl) (hplain:(backTo cpos (starEach es X.env)).any (·.1)=false:=by rfl) :
  AE X (.Call (.Attribute o name apos) (e::es) [] cpos) (QG f co d):=PE.imp (Sf f9 slot hty hm ho ha hbase hfew hline hs hplain) λσ H Q h9=>by
 room;refine⟨ρ,S,τ,R,r,jb (jh h) .refl λx S1 h1 ρ1 H1 v e1 R1 v1=>?_⟩;obtain⟨xs,hx,h1⟩:=je h1;refine⟨lst?_ty R1 v1 hx,ρ1,S1,τ,R1,r.ext e1,jb (jh h1) e1 λas S2 h2 ρ2 H2 vs e2 R2 v2=>?_⟩;exact⟨ρ2,S2,x,as,R2,v1.ext e2,v2,jb h2 (e1.trans e2) λ_ _ z=>z.ext (e1.trans e2)⟩
def Ox(slot:Slot "list" name id)(hty:typeOf (.builtin id)=pure (.type "method_descriptor"))(hm:KJ X id (rM X f))(ho:AE X o co)
  (hbase:attributeBase o name X.env (eval o X.env)=eval o X.env:=by rfl) (hline:(apos.endLine == cpos.line)=true:=by rfl):AE X (.Call (.Attribute o name apos) [] [] cpos) (OJ f co):=PE.imp (Of f9 slot hty hm ho hbase hline) λσ H Q h9=>by
 room;refine⟨ρ,S,τ,R,r,jb (jh h) .refl λx S1 h1 ρ1 H1 v e1 R1 v1=>?_⟩;obtain⟨xs,hx,h1⟩:=je h1;exact⟨lst?_ty R1 v1 hx,ρ1,S1,x,[],R1,v1,.nil,jb h1 e1 λ_ _ z=>z.ext e1⟩
abbrev se (o:A)(as:ad)(S:jd):R A:=match o,as with
 | .ref n,[x]=>opt (i_ S n) λxs=>gd (xs.length<sizeLine) (.ok .non (S.set n (.lst (xs++[x]))))
 | _,_=>.no
def vA:KJ X "list.append" (rM X se):=λpins s σ H x vs v us Q I rx rv h9=>by
 obtain⟨ρ,S,o,as,R,vo,va,h⟩:=h9
 cases vo with
 | @ref p n hp=>
  match as,va,h with
  | [],_,h=>exact h.elim
  | _::_::_,_,h=>exact h.elim
  | [y],va,h=>
   obtain⟨w,rfl,hw⟩:=Fd va;kt_k;obtain⟨hl,h⟩:=jv h;obtain⟨ws,h1,r⟩:=R.lst hp (jn hn);obtain⟨ex,R'⟩:=R.put hp (jn hn) (r.append (.one hw));exact tY pins s σ H _ _ v us Q I rx rv ⟨p,ws,w,rfl,rfl,h1,by rw[<- r.length];exact hl,h _ _ _ ex R' .non⟩
 | _=>exact h.elim
abbrev N2 (o:A)(as:ad)(S:jd):R A:=match o,as with
 | .ref n,[]=>opt (i_ S n) λxs=>opt (xs[xs.length-1]?) λx=>.ok x (S.set n (.lst xs.dropLast))
 | _,_=>.no
def AVs.dropLast{K:au}{H:Hp}{xs:ad}{vs:List V}(r:AVs K ρ H xs vs):AVs K ρ H xs.dropLast vs.dropLast:=by
 rw[List.dropLast_eq_take,List.dropLast_eq_take,r.length];exact r.take _
def Rq:KJ X "list.pop" (rM X N2):=λpins s σ H x vs v us Q I rx rv h9=>by
 obtain⟨ρ,S,o,as,R,vo,va,h⟩:=h9
 cases vo with
 | @ref p n hp=>
  match as,va,h with
  | _::_,_,h=>exact h.elim
  | [],va,h=>
   cases va
   kt_k;obtain⟨y,hy,h⟩:=je h;obtain⟨ws,h1,r⟩:=R.lst hp (jn hn);obtain⟨w,hw,vw⟩:=r.get hy;obtain⟨ex,R'⟩:=R.put hp (jn hn) r.dropLast;exact Qd pins s σ H _ _ v us Q I rx rv ⟨p,ws,w,rfl,rfl,h1,by rw[<- r.length];exact hw,h _ _ _ ex R' (vw.ext ex)⟩
 | _=>exact h.elim
abbrev B0 (o:A)(as:ad)(S:jd):R A:=match o,as with
 | .ref n,[.int i]=>opt (i_ S n) λxs=>gd (-(2 ^ 63)<=i/\i<2 ^ 63) (opt (seqIndex? i xs.length) λk=>opt (xs[k]?) λx=>.ok x (S.set n (.lst (xs.eraseIdx k))))
 | _,_=>.no
def Mw:KJ X "list.pop" (rM X B0):=λpins s σ H x vs v us Q I rx rv h9=>by
 obtain⟨ρ,S,o,as,R,vo,va,h⟩:=h9
 cases vo with
 | @ref p n hp=>
  match as,va,h with
  | [],_,h=>exact h.elim
  | y::_::_,_,h=>exact(by cases y<;>exact h.elim)
  | [y],va,h=>
   obtain⟨w,rfl,hw⟩:=Fd va
   cases hw with
   | int i=>
    kt_k;obtain⟨hi,h⟩:=jv h;obtain⟨k,hk,h⟩:=je h;obtain⟨y,hy,h⟩:=je h;obtain⟨ws,h1,r⟩:=R.lst hp (jn hn);obtain⟨w,hw,vw⟩:=r.get hy;obtain⟨ex,R'⟩:=R.put hp (jn hn) (r.eraseIdx k);exact Hh pins s σ H _ _ v us Q I rx rv ⟨p,ws,i,k,w,rfl,rfl,h1,hi.1,hi.2,by rw[<- r.length];exact hk,hw,h _ _ _ ex R' (vw.ext ex)⟩
   | _=>exact h.elim
 | _=>exact h.elim
end
abbrev lR (N:am)(m:Sm)(as:ad)(S:jd):R A:=match m (as++List.replicate (N.length-as.length) .unb) S with
 | .rt a S'=>.ok a S'
 | .nx _ S'=>.ok .non S'
 | .ex c S'=>.ex c S'
 | _=>.no
abbrev rf (K:au)(n:Nat)(F:ad->jd->R A):Sp:=λvs H Q _=>vs.length=n/\∃ρ S as a S',Rel K ρ H S/\AVs K ρ H as vs/\F as S=.ok a S'/\∀ρ' H' v,Ext ρ ρ' H H'->Rel K ρ' H' S'->AV K ρ' H' a v->Q v H'
def Mj{K:au}{H:Hp}{as:ad}(r:AVs K ρ H as vs)(N:am):SR K ρ H (as++List.replicate (N.length-as.length) .unb) (L2.start N vs):=by
 have hl:=r.length;refine⟨by unfold L2.start;simp[hl],λi a h=>?_⟩;by_cases hi:i<as.length
 ·rw[bD hi]at h;obtain⟨v,hv,av⟩:=r.get h;exact .inr ⟨v,by unfold L2.start;rw[bD (by simp;lia),aT,hv];rfl,av⟩
 ·rw[dN (),f6]at h;split at h
  ·exact .inl (aR h).symm
  ·cases h
section
variable {P:aj}{w:ah}{K:au}{mg:Str->ba}{base:aq}
def uF{x:Str}{st:aF}{f:ak}{fd:FuncData}{N ps:am}{k:Nat}{m:Sm}(F:Fun K x qual st f fd)(Sc:FnScope N ps (jo st))
  (body:∀(cdv:af) (A:aA) (outer:List Env) (s:aC) (H:Hp) (E:XK),Room k (A.deeper (envOfC qual (jo st) s.heap.objs.size f cdv))->LS (B6 qk P w K mg base N qual (jo st) f cdv A outer s H E).QX (oE st) m) :
  FnOk P w K mg base qk (k+1) f fd ps (rf K ps.length (lR N m)):=by
 refine F.ok Sc (λvs H Q E h=>h.1) λcdv B outer s H vs Q E hr ⟨hl,ρ,S,as,a,S',R,va,hF,q⟩=>⟨_,body cdv B outer s H E hr,ρ,S,_,R,Mj va N,?_⟩;unfold lR at hF
 cases hm:m (as++List.replicate (N.length-as.length) .unb) S with
 | rt b S2=>rw[hm]at hF;cases hF;exact q
 | nx τ S2=>rw[hm]at hF;cases hF;exact λρ' H' σ' e R' _=>q ρ' H' _ e R' .non
 | bk τ S2=>rw[hm]at hF;cases hF
 | ct τ S2=>rw[hm]at hF;cases hF
 | ex c S2=>rw[hm]at hF;cases hF
 | no=>rw[hm]at hF;cases hF
end
meta abbrev ql (P:aj)(w:ah)(K:au)(mg:Str->ba)(base:aq)(k:Nat)(x:Str)(ps:am)(F:ad->jd->R A):Prop:=Kn P w K mg base k x ps (rf K ps.length F)
abbrev eFn (F:ad->jd->R A)(d:pO):Ex:=λτ S=>(d τ S).bind λas S1=>match F as S1 with
 | .ok a S2=>.ok a S2
 | _=>.no
section
variable {X:Cx}{pos p:Pos}{e:aE}{es:List aE}{x:Str}{ps:am}{k:Nat}{F:ad->jd->R A}{d:pO}
def CG(G:ql X.prog X.w X.K X.mg X.base k x ps F)(hr:Room k X.A)(ha:AL X (e::es) d)(hl:∀τ S as S',d τ S=.ok as S'->as.length=ps.length)(hg:Gl X x:=by rfl)(hdb:(x == ("__debug__" : Str))=false:=by decide)
  (hs:starEach (e::es) X.env=(false,eval e X.env)::starEach es X.env:=by rfl) (hplain:(backTo pos (starEach es X.env)).any (·.1)=false:=by rfl):AE X (.Call (.Name x p) (e::es) [] pos) (eFn F d):=
 PE.imp (Rp G hr ha hg hdb hs hplain) λσ H Q h9=>by
  room;refine⟨ρ,S,τ,R,r,?_⟩;have hb:=jh h
  cases hd:d τ S with
  | no=>rw[hd]at hb;exact hb
  | ex c S1=>rw[hd]at hb;exact hb
  | ok as S1=>
   rw[hd]at hb;intro ρ1 H1 vs e1 R1 v1;rw[cA];refine⟨by rw[<- v1.length];exact hl τ S as S1 hd,ρ1,S1,as,?_⟩;have hb:Am.R.post (match F as S1 with
    | .ok a S2=>.ok a S2
    | _=>.no) (vR X ρ H Q) (XE X ρ H):=hb
   cases hF:F as S1 with
   | ok a S2=>rw[hF]at hb;exact⟨a,S2,R1,v1,rfl,λρ2 H2 v e2=>hb ρ2 H2 v (e1.trans e2)⟩
   | ex c S2=>rw[hF]at hb;exact hb.elim
   | no=>rw[hF]at hb;exact hb.elim
def uZ:∀τ S as S',jj τ S=.ok as S'->as.length=0:=λτ S as S' h=>by cases h;rfl
def kF{c:Ex}{d:pO}{n:Nat}(h:∀τ S as S',d τ S=.ok as S'->as.length=n):∀τ S as S',i8 c d τ S=.ok as S'->as.length=n+1:=λτ S as S' e=>by
 unfold i8 at e
 cases hc:c τ S with
 | ok a S1=>
  rw[hc]at e
  cases hd:d τ S1 with
  | ok bs S2=>
   have e:R.bind (d τ S1) (λas S2=>.ok (a::as) S2)=.ok as S':=e;rw[hd]at e;cases e;rw[bI,h τ S1 bs _ hd]
  | ex _ _=>
   have e:R.bind (d τ S1) (λas S2=>.ok (a::as) S2)=.ok as S':=e;rw[hd]at e;cases e
  | no=>
   have e:R.bind (d τ S1) (λas S2=>.ok (a::as) S2)=.ok as S':=e;rw[hd]at e;cases e
 | ex _ _=>rw[hc]at e;cases e
 | no=>rw[hc]at e;cases e
end
section
variable {X:Cx}{pos:Pos}{a b c d:aE}
abbrev Vj (f':A->A->jd->R A)(cc:Ex)(τ:ad)(b k:A)(S:jd):R A:=match k with
 | .bl true=>(cc τ S).bind λc S4=>f' b c S4
 | .bl false=>.ok (.bl false) S
 | _=>.no
abbrev Ml (f f':A->A->jd->R A)(ca cb cc:Ex):Ex:=λτ S=>(ca τ S).bind λa S1=>(cb τ S1).bind λb S2=>(f a b S2).bind λk S3=>Vj f' cc τ b k S3
def OQ{f f':A->A->jd->R A}{ca cb cc:Ex}{H:Hp}{Q:VK}(h:tE X (Ml f f' ca cb cc) σ H Q):Gq (r2 X f) (r2 X f') (tE X ca) (tE X cb) (tE X cc) σ H Q:=by
 kpc_g;refine⟨ρ,S,τ,R,r,jb (jh h) .refl λa S1 h1 ρ1 H1 x e1 R1 v1=>⟨ρ1,S1,τ,R1,r.ext e1,jb (jh h1) e1 λb S2 h2 ρ2 H2 y e2 R2 v2=>?_⟩⟩;have e12:=e1.trans e2;refine⟨ρ2,S2,a,b,R2,v1.ext e2,v2,jb (jh h2) e12 λk S3 h3 ρ3 H3 z e3 R3 v3=>?_⟩;have e13:=e12.trans e3
 cases k with
 | bl k=>
  cases CV v3
  refine⟨k,rfl,?_⟩
  cases k with
  | true=>
   rw[aN rfl];exact⟨ρ3,S3,τ,R3,r.ext e13,jb (jh h3) e13 λc S4 h4 ρ4 H4 w e4 R4 v4=>⟨ρ4,S4,b,c,R4,v2.ext (e3.trans e4),v4,jb h4 (e13.trans e4) λ_ _ q=>q.ext (e13.trans e4)⟩⟩
  | false=>
   rw[aM bq];exact h3 ρ3 H3 _ e13 R3 (.bl false)
 | _=>exact h3.elim
def Q_{f f':A->A->jd->R A}{ca cb cc:Ex}(ho:nq X (compareOp op) (r2 X f))(ho':nq X (compareOp op') (r2 X f'))(ha:AE X a ca)(hb:AE X b cb)(hc:AE X c cc)(hm:lastMarks [op,op'] [b,c]=false:=by with_unfolding_all rfl) :
  AE X (.Compare a [op,op'] [b,c] pos) (Ml f f' ca cb cc):=PE.imp (Jo ho ho' ha hb hc hm) λ_ _ _ h=>OQ h
abbrev A.flat:A->Bool
 | .non=>true
 | .bl _=>true
 | .int _=>true
 | .str _=>true
 | _=>false
abbrev QN:A->A->Bool
 | .non,.non=>true
 | .bl a,.bl b=>a == b
 | .bl a,.int b=>(if a then 1 else 0) == b
 | .int a,.bl b=>a == (if b then 1 else 0)
 | .int a,.int b=>a == b
 | .str a,.str b=>a == b
 | _,_=>false
def ER{K:au}{H:Hp}{x:A}{v:V}(h:AV K ρ H x v)(f:x.flat=true):qf v=true:=by cases h<;>first|rfl|cases f
def Cc{K:au}{H:Hp}{x y:A}{v:V}(h:AV K ρ H x v)(h':AV K ρ H y u)(f:x.flat=true)(f':y.flat=true):Bo v u=QN x y:=by
 cases h<;>cases h'<;>first|rfl|(cases f;done)|(cases f';done)
theorem Js{K:au}{H:Hp}{x:A}{v:V}(h:AV K ρ H x v)(f:x.flat=true):∀{ys:ad}{us:List V},AVs K ρ H ys us->ys.all A.flat=true->Vf v us=(ys.any λz=>QN z x)/\us.all qf=true
 | _,_,.nil,_=>⟨rfl,rfl⟩
 | y::ys,u::us,.cons hy t,fs=>by
  rw[iF,c6]at fs;obtain⟨h1,h2⟩:=Js h f t fs.2;refine⟨?_,by rw[iF,ER hy fs.1,h2];rfl⟩;show(Bo u v || Vf v us)=_;rw[h1,Cc hy h fs.1 f];rfl
abbrev QC (S:jd)(x:A):ad->bd
 | []=>some false
 | z::zs=>(xw S 12 z x).bind λp=>(QC S x zs).map λq=>p || q
abbrev Uc (neg:Bool)(x y:A)(S:jd):R A:=opt (y.seq S) λys=>opt (QC S x ys) λb=>.ok (.bl (if neg then !b else b)) S
theorem yT{H:Hp}{x:A}{v:af}(I:Inv X pins σ H s)(R:Rel X.K ρ H S)(hu:X.A.units+64<cLine)(hx:AV X.K ρ H x vx)(rx:RelV vx v) :
  ∀{ys:ad} {us:List V} {its:ap} {b:Bool},AVs X.K ρ H ys us->Vals us its->QC S x ys=some b->∃e:af->Bool,(∀w∈its,SeqAt.EqAt X.A.in1 s w v (e w))/\its.any e=b
 | _,_,_,b,.nil,.nil,h=>⟨λ_=>false,(λw hw=>by cases hw),aR h⟩
 | z::zs,u::us,w0::its,b,.cons hz hzs,.cons r rs,h=>by
  classical
  obtain⟨p,hp,h⟩:=cM.mp h;obtain⟨q,hq,h⟩:=br.mp h;obtain⟨e,he,ha⟩:=yT I R hu hx rx hzs rs hq;have h0:=(z0 I R 12 X.A.in1 z x u vx w0 v p (by rw[in1_units];omega) hz hx r rx hp).2.1;subst h
  cases p with
  | true=>
   refine⟨λw=>if w=w0 then true else e w,λw hw=>?_,?_⟩
   ·by_cases hww:w=w0
    ·dsimp[hww,cN];exact h0
    ·dsimp[hww,cE]
     rcases bJ.mp hw with z|z
     ·exact absurd z hww
     ·exact he w z
   ·simp
  | false=>
   by_cases hm:w0∈its
   ·refine⟨e,λw hw=>?_,?_⟩
    ·rcases bJ.mp hw with z|z
     ·rw[z];exact he w0 hm
     ·exact he w z
    ·rw[eX,ha,Bool.false_or]
     cases q with
     | true=>simp
     | false=>
      have:=List.any_eq_false.mp ha w0 hm;simpa using this
   ·refine⟨λw=>if w=w0 then false else e w,λw hw=>?_,?_⟩
    ·by_cases hww:w=w0
     ·dsimp[hww,cN];exact h0
     ·dsimp[hww,cE]
      rcases bJ.mp hw with z|z
      ·exact absurd z hww
      ·exact he w z
    ·rw[eX,<- ha];dsimp[cN,Bool.false_or];have:∀l:ap,(∀w∈l,w≠w0)->l.any (λw=>if w=w0 then false else e w)=l.any e:=λl hl=>by
      induction l with
      | nil=>rfl
      | cons c l ih=>rw[eX,eX,ih λw hw=>hl w (aV _ hw),aM (hl c (aW ..))]
     exact this its λw hw z=>hm (z ▸ hw)
def T5(hu:X.A.units+64<cLine):nq X (compareOp .In) (r2 X (Uc false)):=λpins s σ H x y v u Q I rx ry h9=>by
 z_go;obtain⟨ys,hy,h⟩:=je h;obtain⟨k,hk,h⟩:=je h;obtain⟨p,us,rfl,hs,r⟩:=Hq R vb hy
 cases ry
 rcases hs with hs|hs
 ·obtain⟨its,rv,pl,hz⟩:=I.list hs;obtain⟨e,he,ha⟩:=yT I R hu va rx r rv hk;refine SeqAt.in_listAt e pl.isList (λw hw=>he w (by simpa using hw)) ⟨.bl _,H,I,rfl,?_⟩;rw[show its.toArray.any e=its.any e by simp,ha];exact h _ _ _ .refl R (.bl _)
 ·obtain⟨its,rv,pl,hz⟩:=I.tuple hs;obtain⟨e,he,ha⟩:=yT I R hu va rx r rv hk;refine SeqAt.in_tupleAt e pl (λw hw=>he w (by simpa using hw)) ⟨.bl _,H,I,rfl,?_⟩;rw[show its.toArray.any e=its.any e by simp,ha];exact h _ _ _ .refl R (.bl _)
abbrev Qu (o:A)(as:ad)(S:jd):R A:=match as with
 | [x]=>opt (o.seq S) λys=>gd (x.flat=true/\ys.all A.flat=true) (opt (ys.findIdx? λz=>QN z x) λk=>.ok (.int (k:Nat)) S)
 | _=>.no
abbrev F2 (co:Ex)(d:pO):Ex:=λτ S=>(co τ S).bind λo S1=>opt (o.seq S1) λ_=>(d τ S1).bind λas S2=>Qu o as S2
abbrev A.isTup:A->Bool
 | .tup _=>true
 | _=>false
def A7{K:au}{H:Hp}{x:A}{v:V}(R:Rel K ρ H S)(h:AV K ρ H x v)(e:x.seq S=some xs):∃p vs,v=.ref p/\(if x.isTup=true then mz K H p vs else mw K H p vs)/\AVs K ρ H xs vs:=by
 cases h with
 | tup h r=>cases aR e;exact⟨_,_,rfl,(mz.of h),r⟩
 | frz h r=>cases aR e;exact⟨_,_,rfl,h.II,r⟩
 | ref h=>
  obtain⟨vs,h1,r1⟩:=R.lst h (jn e);exact⟨_,vs,rfl,mw.of h1,r1⟩
 | _=>cases e
def OS{K:au}{H:Hp}{x:A}{v:V}{ys:ad}{us:List V}{k:Nat}(h:AV K ρ H x v)(f:x.flat=true)(r:AVs K ρ H ys us)(fs:ys.all A.flat=true)(e:(ys.findIdx? λz=>QN z x)=some k) :
  us.all qf=true/\∃z,us[k]?=some z/\Bo z v=true/\∀(m:Nat) (z':V),m<k->us[m]?=some z'->Bo z' v=false:=by
 rw[f_]at e;obtain⟨hk,h1,h2⟩:=e;have fl:∀m (hm:m<ys.length),ys[m].flat=true:=λm hm=>eG.mp fs _ (dJ hm);refine⟨(Js h f r fs).2,?_⟩;obtain⟨z,hz,vz⟩:=r.get (aG hk);refine⟨z,hz,by rw[Cc vz h (fl k hk) f];exact h1,λm z' hm hz'=>?_⟩;have hm':m<ys.length:=()
 obtain⟨z2,hz2,vz2⟩:=r.get (aG hm');rw[hz']at hz2;cases hz2;rw[Cc vz2 h (fl m hm') f];have:=h2 m hm;simpa using this
def Pw{e:aE}{apos cpos:Pos}{co:Ex}{d:pO}(ho:AE X o co)(ha:AL X (e::es) d)
  (hbase:attributeBase o "index" X.env (eval o X.env)=eval o X.env:=by rfl)
  (hfew:((backTo cpos (starEach (e::es) X.env)).all (λx=>!x.1) && (backToKw cpos (keywordEach [] X.env)).all (λx=>x.1.isSome)
   && decide ((e::es).length+([]:List Keyword).length+(if ([]:List Keyword).isEmpty then 0 else 1)<30))=true:=by rfl)
  (hline:(apos.endLine == cpos.line)=true:=by rfl) (hs:starEach (e::es) X.env=(false,eval e X.env)::starEach es X.env:=by rfl) (hplain:(backTo cpos (starEach es X.env)).any (·.1)=false:=by rfl) :
  AE X (.Call (.Attribute o "index" apos) (e::es) [] cpos) (F2 co d):=PE.imp (OM ho ha hbase hfew hline hs hplain) λσ H Q h9=>by
 room;refine⟨ρ,S,τ,R,r,jb (jh h) .refl λx S1 h1 ρ1 H1 v e1 R1 v1=>?_⟩;obtain⟨xs,hx,h1⟩:=je h1;obtain⟨p,vs,hv,hq,_⟩:=A7 R1 v1 hx;refine⟨x.isTup,p,vs,hv,hq,ρ1,S1,τ,R1,r.ext e1,jb (jh h1) e1 λas S2 h2 ρ2 H2 ws e2 R2 v2=>?_⟩;unfold Qu at h2
 match as,v2,h2 with
 | [],_,h2=>exact h2.elim
 | _::_::_,_,h2=>exact h2.elim
 | [y],v2,h2=>
  obtain⟨w,rfl,hw⟩:=Fd v2;obtain⟨ys,hy,h2⟩:=je h2;obtain⟨⟨f1,f2⟩,h2⟩:=jv h2;obtain⟨k,hk,h2⟩:=je h2;obtain⟨p',us,hv',hq',rr⟩:=A7 R2 (v1.ext e2) hy;obtain⟨g1,z,g2,g3,g4⟩:=OS hw f1 rr f2 hk;exact⟨p',w,us,k,z,hv',rfl,hq',ER hw f1,g1,g2,g3,g4,h2 _ _ _ (e1.trans e2) R2 (.int _)⟩
end
abbrev PV (o:A)(as:ad)(S:jd):R A:=match o,as with
 | .ref n,[x]=>(match x with
  | .bl b=>opt (i_ S n) λxs=>opt (A.FQ xs) λbs=>.ok (.int (bs.countP (· == b):Nat)) S
  | _=>.no)
 | _,_=>.no
theorem Ai{K:au}{H:Hp}:∀{xs:ad}{bs:List Bool}{us:List V}{its:ap},A.FQ xs=some bs->AVs K ρ H xs us->Vals us its->xs=bs.map A.bl/\its=bs.map Value.bool
 | [],bs,_,_,h,.nil,.nil=>by cases aR h;exact⟨rfl,rfl⟩
 | x::xs,bs,_,_,h,.cons hx hxs,.cons r rs=>by
  cases x with
  | bl b=>
   have h:(A.FQ xs).map (b::·)=some bs:=h;obtain⟨bs',h1,rfl⟩:=br.mp h;obtain⟨e1,e2⟩:=Ai h1 hxs rs
   cases hx
   cases r
   exact⟨by rw[e1];rfl,by rw[e2];rfl⟩
  | _=>cases h
abbrev RB (b:Bool):af->Bool
 | .bool c=>c == b
 | _=>false
theorem Gg(b:Bool):∀(bs:List Bool),(bs.map Value.bool).countP (RB b)=bs.countP (· == b)
 | []=>rfl
 | c::bs=>by rw[bX,b7,b7,Gg b bs];rfl
section
variable {X:Cx}
def vp(hu:X.A.units+64<cLine):KJ X "list.count" (rM X PV):=λpins s σ H x vs v us Q I rx rv h9=>by
 obtain⟨ρ,S,o,as,R,vo,va,h⟩:=h9
 cases vo with
 | @ref p n hp=>
  match as,va,h with
  | [],_,h=>exact h.elim
  | _::_::_,_,h=>exact h.elim
  | [y],va,h=>
   cases y with
   | bl b=>
    obtain⟨w,rfl,hw⟩:=Fd va;kt_k;obtain⟨bs,hbs,h⟩:=je h;obtain⟨ws,h1,r⟩:=R.lst hp (jn hn)
    cases rx
    obtain⟨u,rfl,ru⟩:=rv.one;obtain⟨its,rv,pl,hsz⟩:=I.list (mw.of h1);obtain⟨⟨cls,dd,data,sl⟩,ho,hc,nn,hd⟩:=id pl.isList;simp only at hc hd;subst hc hd;obtain⟨ex,ei⟩:=Ai hbs r rv;subst ei;refine fV F.slot_list_count ⟨_,ho,rfl⟩ F.entry_list_count (F.args_list_count_2 _ _) (SeqAt.list_countAt p (bs.map Value.bool).toArray nn dd sl u (RB b)) ⟨ho,λz hz=>?_,.int (bs.countP (· == b):Nat),H,I.tok _,⟨s.toks,by rw[List.toList_toArray,Gg]⟩,h _ _ _ .refl R (.int _)⟩
    ·obtain⟨c,_,rfl⟩:=bA.mp (List.mem_toArray.mp hz);exact(z0 I R 12 X.A.in1 (.bl c) (.bl b) (.bl c) w (.bool c) u (c == b) (by rw[in1_units];lia) (.bl c) hw rfl ru rfl).2.1
   | _=>exact h.elim
 | _=>exact h.elim
end
abbrev jO (S:jd)(n:Nat):Option (List (ae×A)):=match S[n]? with
 | some (.dct xs)=>some xs
 | _=>none
def nP{n:Nat}(h:jO S n=some xs):S[n]?=some (.dct xs):=by
 unfold jO at h;split at h
 ·rename_i e;cases h;exact e
 ·cases h
def sD{S:jd}{n:Nat}(h:S[n]?=some (.dct xs)):jO S n=some xs:=by
 unfold jO;rw[h]
abbrev m8 (kvs:List (ae×A))(k:ae):Option A:=(kvs.find? λkv=>decide (kv.1=k)).map (·.2)
abbrev putD (kvs:List (ae×A))(k:ae)(v:A):List (ae×A):=
 if (m8 kvs k).isSome=true then kvs.map (λkv=>if kv.1=k then(kv.1,v)else kv)else kvs++[(k,v)]
theorem zu:∀{a b:ae},a.map (Sum.inl:Int->Key)=b.map Sum.inl->a=b
 | [],[],_=>rfl
 | [],_::_,e=>by simp at e
 | _::_,[],e=>by simp at e
 | x::xs,y::ys,e=>by
  rw[bX,bX]at e
  injection e with e1 e2
  injection e1 with e1
  rw[e1,zu e2]
def yI(ns:ae):(ns.map (Sum.inl:Int->Key)).map kV=ns.map V.int:=by rw[bV];rfl
section
variable {K:au}{ρ:ar}{H:Hp}
def tW{p:ae×A}{r:List (ae×A)}{k:ae}(e:p.1=k):m8 (p::r) k=some p.2:=by simp[m8,dz,e]
def tM{p:ae×A}{r:List (ae×A)}{k:ae}(e:¬p.1=k):m8 (p::r) k=m8 r k:=by simp[m8,dz,e]
theorem DV.look:∀{kvs:List (ae×A)}{ks:List (List Key×V)}(k:ae),DV K ρ H kvs ks->(m8 kvs k).isSome=(tH ks (k.map Sum.inl)).isSome/\∀x,m8 kvs k=some x->∃v,tH ks (k.map Sum.inl)=some v/\AV K ρ H x v
 | [],[],k,_=>⟨rfl,λx h=>nomatch h⟩
 | p::r,q::r',k,⟨⟨e,a⟩,t⟩=>by
  by_cases c:p.1=k
  ·have c':q.1=k.map Sum.inl:=by rw[e,c]
   rw[tW c,sL c'];exact⟨rfl,λx h=>by cases h;exact⟨_,rfl,a⟩⟩
  ·have c':¬q.1=k.map Sum.inl:=λz=>c (zu (e.symm.trans z));rw[tM c,sR c'];exact DV.look k t
theorem DV.repl{x:A}{v:V}(h:AV K ρ H x v)(k:ae):∀{kvs:List (ae×A)}{ks:List (List Key×V)},DV K ρ H kvs ks->DV K ρ H (kvs.map λkv=>if kv.1=k then(kv.1,x)else kv) (ks.map λkv=>if kv.1=k.map Sum.inl then(kv.1,v)else kv)
 | [],[],_=>trivial
 | p::r,q::r',⟨⟨e,a⟩,t⟩=>by
  refine⟨?_,DV.repl h k t⟩;dsimp only;by_cases c:p.1=k
  ·rw[aN c,aN (by rw[e,c])];exact⟨e,h⟩
  ·rw[aM c,aM (λz=>c (zu (e.symm.trans z)))];exact⟨e,a⟩
theorem DV.snoc{x:A}{v:V}(h:AV K ρ H x v)(k:ae):∀{kvs:List (ae×A)}{ks:List (List Key×V)},DV K ρ H kvs ks->DV K ρ H (kvs++[(k,x)]) (ks++[(k.map Sum.inl,v)])
 | [],[],_=>⟨⟨rfl,h⟩,trivial⟩
 | p::r,q::r',⟨a,t⟩=>⟨a,DV.snoc h k t⟩
def DV.put{x:A}{v:V}(h:AV K ρ H x v)(k:ae)(d:DV K ρ H kvs ks):DV K ρ H (putD kvs k x) (putK ks (k.map Sum.inl) v):=by
 unfold putD putK;rw[wQ,<- (d.look k).1];by_cases c:(m8 kvs k).isSome=true
 ·rw[aN c,aN c];exact DV.repl h k d
 ·rw[aM c,aM c];exact DV.snoc h k d
def DV.length:∀{kvs:List (ae×A)}{ks:List (List Key×V)},DV K ρ H kvs ks->kvs.length=ks.length
 | [],[],_=>rfl
 | _::_,_::_,⟨_,t⟩=>dM (·+1) t.length
def Rel.dct{n:Nat}{a:ak}(R:Rel K ρ H S)(ha:ρ[n]?=some a)(hS:S[n]?=some (.dct xs)):∃vs,H a=some (.dT vs)/\DV K ρ H xs vs:=R.at n a _ ha hS
def Rel.putD{S:jd}{n:Nat}{a:ak}(R:Rel K ρ H S)(ha:ρ[n]?=some a)(hS:S[n]?=some (.dct xs))(r:DV K ρ H ys ws):Ext ρ ρ H (upd H a (.dT ws))/\Rel K ρ (upd H a (.dT ws)) (S.set n (.dct ys)):=by
 obtain⟨vs,e,_⟩:=R.at n a _ ha hS;have ex:Ext ρ ρ H (upd H a (.dT ws)):=⟨⟨dI _,λb u i h=>by
  have:b≠a:=by
   intro z;subst z;rw[e]at h;cases h;exact i
  rw[jl this];exact h⟩,λb u h n=>by
  rw[jl (λz=>n (by rw[z];exact aY ha))];exact h,λ_ h=>.inl h⟩
 refine⟨ex,by rw[bG];exact R.len,R.nd,λm b o h1 h2=>?_⟩;by_cases hm:m=n
 ·subst hm;rw[ha]at h1;cases h1;rw[b8 (aJ.mp hS).1]at h2
  cases h2
  exact⟨ws,jJ,r.ext ex⟩
 ·rw[bW (eL hm)]at h2;have nb:b≠a:=λz=>by
   subst z;obtain⟨l1,e1⟩:=aJ.mp ha;obtain⟨l2,e2⟩:=aJ.mp h1;exact hm ((dG R.nd).mp (e2.trans e1.symm))
  have:=R.at m b o h1 h2
  cases o with
  | lst ys=>obtain⟨ws',e',q⟩:=this;exact⟨ws',by rw[jl nb];exact e',q.ext ex⟩
  | dct _|dki _=>obtain⟨ws',e',q⟩:=this;exact⟨ws',by rw[jl nb];exact e',q.ext ex⟩
  | ins _ _=>obtain⟨oo,uu,e'⟩:=this;exact⟨oo,uu,by rw[jl nb];exact e'⟩
end
section
variable {X:Cx}{pos:Pos}{a b:aE}
def yF{H:Hp}{p q:ak}{n:Nat}{ns:ae}(R:Rel X.K ρ H S)(hp:ρ[n]?=some p)(hn:jO S n=some kvs)(hq:H q=some (.tup vs))(r:AVs X.K ρ H xs vs)(hi:A.ints xs=some ns) :
  ∃ks,H p=some (.dT ks)/\DV X.K ρ H kvs ks/\H q=some (.tup ((ns.map (Sum.inl:Int->Key)).map kV))/\yC H p (.ref q) (tH ks (ns.map Sum.inl)):=by
 obtain⟨ks,e,d⟩:=R.dct hp (nP hn);have z:=pQ r hi;subst z;rw[<- yI]at hq;exact⟨ks,e,d,hq,yC.t e hq⟩
abbrev K4 (x y:A)(S:jd):R A:=match x,y with
 | .ref n,.tup xs=>opt (jO S n) λkvs=>opt (A.ints xs) λns=>opt (m8 kvs ns) λv=>.ok v S
 | _,_=>.no
def SK(hu:X.A.units+64<cLine):O6 X (r2 X K4):=λvalue slice pins s σ H x y v u Q I rx ry ⟨ρ,S,a,b,R,va,vb,h⟩ hs=>by
 cases va with
 | @ref p n hp=>
  cases vb with
  | @tup q xs vs hq r=>
   obtain⟨kvs,hn,h⟩:=je h;obtain⟨ns,hi,h⟩:=je h;obtain⟨z,hz,h⟩:=je h;obtain⟨ks,e,d,hq',g⟩:=yF R hp hn hq r hi;obtain⟨w,hw,aw⟩:=(d.look ns).2 z hz;rw[hw]at g;exact LL () value slice pins s σ H _ _ v u Q I rx ry ⟨p,w,rfl,g,h _ _ _ .refl R aw⟩ hs
  | _=>exact h.elim
 | _=>exact h.elim
def Oo(hu:X.A.units+64<cLine){ca cb:Ex}(ha:AE X a ca)(hb:AE X b cb)(hs:yE b:=by exact λ_ _=>rfl):AE X (.Subscript a b pos) (jc K4 ca cb):=PE.imp (MR (SK hu) ha hb hs) λσ H Q h=>sA h
abbrev PR (neg:Bool)(x y:A)(S:jd):R A:=match x,y with
 | .tup xs,.ref n=>opt (jO S n) λkvs=>opt (A.ints xs) λns=>.ok (.bl (if neg then !(m8 kvs ns).isSome else(m8 kvs ns).isSome)) S
 | _,_=>.no
def GR(hu:X.A.units+64<cLine):nq X (compareOp .NotIn) (r2 X (PR true)):=λpins s σ H x y v u Q I rx ry h9=>by
 z_go
 cases va with
 | @tup q xs vs hq r=>
  cases vb with
  | @ref p n hp=>
   obtain⟨kvs,hn,h⟩:=je h;obtain⟨ns,hi,h⟩:=je h;obtain⟨ks,e,d,hq',g⟩:=yF R hp hn hq r hi;exact FH (by omega) pins s σ H _ _ v u Q I rx ry ⟨p,_,rfl,g,by rw[<- (d.look ns).1];exact h _ _ _ .refl R (.bl _)⟩
  | _=>exact h.elim
 | _=>exact h.elim
abbrev Dv (o i v:A)(S:jd):R Unit:=match o,i with
 | .ref n,.tup xs=>opt (jO S n) λkvs=>opt (A.ints xs) λns=>gd (kvs.length<sizeLine) (.ok Unit.unit (S.set n (.dct (putD kvs ns v))))
 | _,_=>.no
abbrev U7 (X:Cx):Cg:=λo i v H Q=>∃ρ S ao ai av,Rel X.K ρ H S/\AV X.K ρ H ao o/\AV X.K ρ H ai i/\AV X.K ρ H av v/\(Dv ao ai av S).post (λ_ S'=>∀ρ' H',Ext ρ ρ' H H'->Rel X.K ρ' H' S'->Q H') (XE X ρ H)
def Lc(hu:X.A.units+64<cLine):F1 X (U7 X):=λpins s σ H o i v ov iv u Q I ro ri rv h9=>by
 obtain⟨ρ,S,ao,ai,av,R,h1,h2,h3,h⟩:=h9
 cases h1 with
 | @ref p n hp=>
  cases h2 with
  | @tup q xs vs hq r=>
   obtain⟨kvs,hn,h⟩:=je h;obtain⟨ns,hi,h⟩:=je h;obtain⟨hl,h⟩:=jv h;obtain⟨ks,e,d,hq',g⟩:=yF R hp hn hq r hi;obtain⟨ex,R'⟩:=R.putD hp (nP hn) (d.put h3 ns);exact set_dict () pins s σ H _ _ v ov iv u Q I ro ri rv ⟨p,_,rfl,JQ.t e hq' (by rw[<- d.length];exact hl),h _ _ ex R'⟩
  | _=>exact h.elim
 | _=>exact h.elim
abbrev PK (co ci:Ex):Tg:=λa τ S=>(co τ S).bind λo S1=>(ci τ S1).bind λi S2=>(Dv o i a S2).bind λ_ S3=>.ok τ S3
def Lv(hu:X.A.units+64<cLine){co ci:Ex}(ho:AE X o co)(hi:AE X i ci)
  (ha:∀v,assign (.Subscript o i pos) X.env v=(do
   let ov <- holding [v] (eval o X.env)
   let iv <- holding [v,ov] (eval i X.env)
   standAt pos
   holding [v,ov,iv] (setItem ov iv v)
   release [v,ov,iv] []):=by intro _;rfl):AG X (.Subscript o i pos) (PK co ci):=PG.imp (Ga ho hi (Lc hu) ha) λv σ H Q h9=>by
 obtain⟨ρ,S,τ,a,R,r,va,h⟩:=h9;refine⟨ρ,S,τ,R,r,jb (jh h) .refl λo S1 h1 ρ1 H1 x e1 R1 v1=>⟨ρ1,S1,τ,R1,r.ext e1,jb (jh h1) e1 λi S2 h2 ρ2 H2 y e2 R2 v2=>?_⟩⟩;refine⟨ρ2,S2,o,i,a,R2,v1.ext e2,v2,va.ext (e1.trans e2),jb (jh h2) (e1.trans e2) λ_ S3 h3 ρ3 H3 e3 R3=>?_⟩;exact h3 ρ3 H3 σ ((e1.trans e2).trans e3) R3 (r.ext ((e1.trans e2).trans e3))
abbrev Jv (ck cv:Ex):Ex:=λτ S=>(ck τ S).bind λk S1=>(cv τ S1).bind λv S2=>match k with
 | .tup xs=>opt (A.ints xs) λns=>.ok (.ref S2.length) (S2++[.dct [(ns,v)]])
 | _=>.no
def Rel.QT{K:au}{H:Hp}{S:jd}{D:ak}(R:Rel K ρ H S)(hD:H D=some (.dT us))(hn:D∉ρ)(r:DV K ρ H xs vs):Ext0 ρ (ρ++[D]) H (upd H D (.dT vs))/\Rel K (ρ++[D]) (upd H D (.dT vs)) (S++[.dct xs])/\(ρ++[D])[S.length]?=some D:=by
 have ex:Ext0 ρ (ρ++[D]) H (upd H D (.dT vs)):=⟨fW _ _,λb u i h=>by
  have:b≠D:=by
   intro z;subst z;rw[hD]at h;cases h;exact i
  rw[jl this];exact h⟩
 have last:(ρ++[D])[S.length]?=some D:=by rw[<- R.len];simp
 refine⟨ex,⟨by simp[R.len],?_,λn a o h1 h2=>?_⟩,last⟩
 ·rw[cD];refine⟨R.nd,by simp,λa ha b hb e=>?_⟩;have:b=D:=by simpa using hb
  exact hn (by rw[<- this,<- e];exact ha)
 ·by_cases hs:n<S.length
  ·rw[bD (by rw[R.len];exact hs)]at h1;rw[bD hs]at h2;have na:a≠D:=λz=>hn (by rw[<- z];exact aY h1);have:=R.at n a o h1 h2
   cases o with
   | lst ys=>obtain⟨ws,e,q⟩:=this;exact⟨ws,by rw[jl na];exact e,AVs.kM ex q⟩
   | dct _|dki _=>obtain⟨ws,e,q⟩:=this;exact⟨ws,by rw[jl na];exact e,q.kM ex⟩
   | ins _ _=>obtain⟨oo,uu,e⟩:=this;exact⟨oo,uu,by rw[jl na];exact e⟩
  ·have e:n=S.length:=by
    have:=(aJ.mp h2).1;simp at this
    lia
   subst e;rw[last]at h1
   cases h1
   simp at h2;subst h2;exact⟨vs,jJ,r.kM ex⟩
def LC(hu:X.A.units+64<cLine){k v:aE}{ck cv:Ex}(hk:AE X k ck)(hv:AE X v cv):AE X (.Dict [some k] [v] pos) (Jv ck cv):=PE.imp (Kw () hk hv) λσ H Q ⟨ρ,S,τ,R,r,h⟩ p hp=>by
 obtain⟨e0,R0⟩:=R.im (u:=.dT []) hp;have np:p∉ρ:=R.HS hp;refine⟨ρ,S,τ,R0,r.ext e0,jb (jh h) e0 λa S1 h1 ρ1 H1 x e1 R1 v1=>⟨ρ1,S1,τ,R1,(r.ext e0).ext e1,jb (jh h1) (e0.trans e1) λb S2 h2 ρ2 H2 y e2 R2 v2=>?_⟩⟩;have e12:=e1.trans e2;have hp2:H2 p=some (.dT []):=e12.fr p _ jJ np;have np2:p∉ρ2:=λhm=>(e12.nw p hm).elim np λz=>by rw[jJ]at z;cases z
 cases v1.ext e2 with
 | @tup q xs vs hq rr=>
  obtain⟨ns,hi,h2⟩:=je h2;have z:=pQ rr hi;subst z;refine⟨hp2,q,ns.map Sum.inl,rfl,by rw[yI];exact hq,?_⟩;obtain⟨e3,R3,hl⟩:=R2.QT (xs:=[(ns,b)]) (vs:=[(ns.map Sum.inl,y)]) hp2 np2 ⟨⟨rfl,v2⟩,trivial⟩;refine h2 _ _ _ ⟨⟨(e0.trans e12).pre.trans e3.pre,λc u i hc=>e3.im c u i ((e0.trans e12).im c u i hc)⟩,λc u hc nc=>?_,λc hc=>?_⟩ R3 (.ref hl)
  ·rw[jl (ju hc hp)];exact(e0.trans e12).fr c u hc nc
  ·rcases bh.mp hc with z|z
   ·exact(e0.trans e12).nw c z
   ·have:c=p:=by simpa using z
    rw[this];exact .inr hp
 | _=>exact h2.elim
end
section
variable {X:Cx}{a b:aE}
abbrev Ff (p:ae×A):A:=.tup [.tup (p.1.map .int),p.2]
abbrev UC (a:A)(S:jd):R Src:=match a with
 | .ref n=>opt (jO S n) λkvs=>.ok (mV (kvs.map Ff)) (S.set n (.ins "" []))
 | _=>.no
abbrev Fx (c:Ex):Ic:=λτ S=>(c τ S).bind λa S1=>UC a S1
theorem MQ{K:au}{H:Hp}:∀{kvs:List (ae×A)}{ks:List (List Key×V)}{i:Nat}{p:ae×A},DV K ρ H kvs ks->kvs[i]?=some p->∃q,ks[i]?=some q/\q.1=p.1.map Sum.inl/\AV K ρ H p.2 q.2
 | [],[],_,_,_,h=>by simp at h
 | a::kvs,b::ks,0,p,⟨z,_⟩,h=>by
  have:a=p:=by simpa using h
  subst this;exact⟨b,rfl,z⟩
 | a::kvs,b::ks,i+1,p,⟨_,t⟩,h=>MQ (kvs:=kvs) (ks:=ks) (i:=i) t (by simpa using h)
def Rel.gone{K:au}{H:Hp}{S:jd}{n:Nat}{a:ak}(R:Rel K ρ H S)(ha:ρ[n]?=some a)(hS:S[n]?=some (.dct xs)):Ext ρ ρ H (upd H a (.frz o u))/\Rel K ρ (upd H a (.frz o u)) (S.set n (.ins "" [])):=by
 obtain⟨vs,e,_⟩:=R.at n a _ ha hS;have ex:Ext ρ ρ H (upd H a (.frz o u)):=⟨⟨dI _,λb u' i h=>by
  have:b≠a:=by
   intro z;subst z;rw[e]at h;cases h;exact i
  rw[jl this];exact h⟩,λb u' h nb=>by
  rw[jl (λz=>nb (by rw[z];exact aY ha))];exact h,λ_ h=>.inl h⟩
 refine⟨ex,by rw[bG];exact R.len,R.nd,λm b ob h1 h2=>?_⟩;by_cases hm:m=n
 ·subst hm;rw[ha]at h1;cases h1;rw[b8 (aJ.mp hS).1]at h2
  cases h2
  exact⟨o,u,jJ⟩
 ·rw[bW (eL hm)]at h2;have nb:b≠a:=λz=>by
   subst z;obtain⟨l1,e1⟩:=aJ.mp ha;obtain⟨l2,e2⟩:=aJ.mp h1;exact hm ((dG R.nd).mp (e2.trans e1.symm))
  have:=R.at m b ob h1 h2
  cases ob with
  | lst ys=>obtain⟨ws',e',q⟩:=this;exact⟨ws',by rw[jl nb];exact e',q.ext ex⟩
  | dct _|dki _=>obtain⟨ws',e',q⟩:=this;exact⟨ws',by rw[jl nb];exact e',q.ext ex⟩
  | ins _ _=>obtain⟨oo,uu,e'⟩:=this;exact⟨oo,uu,by rw[jl nb];exact e'⟩
def J1{apos cpos:Pos}{e:aE}{c:Ex}(ha:AE X e c)(hbase:attributeBase e "items" X.env (eval e X.env)=eval e X.env:=by rfl)(hline:(apos.endLine == cpos.line)=true:=by rfl) :
  AI X (.Tuple elts x1 tpos) (.Call (.Attribute e "items" apos) [] [] cpos) (Fx c):=λpins s σ H Q I h9=>by
 room;refine Ke ha hbase hline pins s σ H Q I ⟨ρ,S,τ,R,r,jb (jh h) .refl λx S1 h1 ρ1 H1 v e1 R1 v1=>?_⟩
 cases v1 with
 | @ref p n hp=>
  obtain⟨kvs,hn,h1⟩:=je h1;obtain⟨ks,g1,dv⟩:=R1.dct hp (nP hn);refine⟨p,ks,rfl,g1,λo ps pl pat=>?_⟩;obtain⟨ex,R2⟩:=R1.gone (o:=o) (u:=.dT ks) hp (nP hn);have dl:=dv.length;refine h1 ρ1 _ _ (e1.trans ex) R2 ⟨λi S2 H2 ρ2 y e2 R3 g=>?_,λS2 H2 ρ2 e2 R3 _=>⟨?_,e2.im _ _ trivial jJ⟩⟩
  ·have g:(kvs.map Ff)[i]?=some y:=g;rw[aT]at g;obtain⟨kv,hk,rfl⟩:=br.mp g;obtain⟨q,hq,q1,q2⟩:=MQ dv hk;have hi:i<ps.length:=by rw[pl];exact(aJ.mp hq).1
   obtain⟨k',e3,e4⟩:=pat i ps[i].1 ps[i].2 (aG hi);rw[hq]at e3
   cases e3
   refine⟨⟨ps[i].1,ps[i].2,aG hi,e2.im _ _ trivial jJ⟩,λw' H' qq=>?_⟩;obtain⟨T,hT,rfl,hz⟩:=qq;have hz':=hz _ _ (aG hi);subst hz';obtain⟨ex3,R4⟩:=R3.im (u:=.tup [.ref ps[i].1,ps[i].2]) hT;have ka:H2 ps[i].1=some (.tup (k'.map kV)):=e2.im _ _ trivial (ex.toExt0.im _ _ trivial e4);have kk:k'.map kV=kv.1.map V.int:=by rw[show k'=kv.1.map Sum.inl from q1,yI]
   rw[kk]at ka;exact⟨ex3,R4,.tup jJ (.cons ((AV.tup ka (nQ _)).ext ex3) (.cons (((q2.kM ex.toExt0).kM e2).ext ex3) .nil))⟩
  ·show(kvs.map Ff).length=ps.length;rw[aK,dl,pl]
 | _=>exact h1.elim
end
abbrev o4 (s:Src)(g:Tg)(t:Te)(e:Ex):Nat->Nat->ad->jd->R (ad×ad)
 | 0,_=>λτ S=>if s.fin S then .ok ([],τ) S else .no
 | k+1,i=>λτ S=>opt (s.get i S) λx=>(g x τ S).kQ λτ1 S1=>(t τ1 S1).kQ λb S2=>match b with
  | true=>(e τ1 S2).kQ λy S3=>(o4 s g t e k (i+1) τ1 S3).kQ λp S4=>.ok (y::p.1,p.2) S4
  | false=>o4 s g t e k (i+1) τ1 S2
abbrev nH (s:Src)(g:Tg)(t:Te)(src2:Ic)(g2:Tg)(t2:Te)(e:Ex):Nat->Nat->ad->jd->R (ad)
 | 0,_=>λ_ S=>if s.fin S then .ok [] S else .no
 | k+1,i=>λτ S=>opt (s.get i S) λx=>(g x τ S).kQ λτ1 S1=>(t τ1 S1).kQ λb S2=>match b with
  | true=>(src2 τ1 S2).kQ λs2 S3=>(o4 s2 g2 t2 e s2.k 0 τ1 S3).kQ λp S4=>(nH s g t src2 g2 t2 e k (i+1) p.2 S4).kQ λys S5=>.ok (p.1++ys) S5
  | false=>nH s g t src2 g2 t2 e k (i+1) τ1 S2
abbrev Br (cap:List (bi))(src:Ic)(g:Tg)(t:Te)(src2:Ic)(g2:Tg)(t2:Te)(e:Ex):Ex:=λτ S=>(src τ S).bind λs S1=>(nH s g t src2 g2 t2 e s.k 0 (nJ cap τ) S1).kQ λys S2=>newL ys S2
def Ao{s:Src}{g:Tg}{t:Te}{e:Ex}{k:Nat}{T:Prop}(h:o4 s g t e (k+1) i τ S=.ok (zs,τ') S')
  (q:∀x τ1 S1 b S2,s.get i S=some x->g x τ S=.ok τ1 S1->t τ1 S1=.ok b S2->(b=true->∃y S3 ws,e τ1 S2=.ok y S3/\o4 s g t e k (i+1) τ1 S3=.ok (ws,τ') S'/\zs=y::ws)->(b=false->o4 s g t e k (i+1) τ1 S2=.ok (zs,τ') S')->T):T:=by
 obtain⟨x,hx,h⟩:=Ca h;obtain⟨τ1,S1,h1,h⟩:=j_ h;obtain⟨b,S2,h2,h⟩:=j_ h;refine q x τ1 S1 b S2 hx h1 h2 (λhb=>?_) λhb=>?_
 ·subst hb;obtain⟨y,S3,h3,h⟩:=j_ h;obtain⟨⟨ws,τ2⟩,S4,h4,h⟩:=j_ h
  cases h
  exact⟨y,S3,ws,h3,h4,rfl⟩
 ·subst hb;exact h
def yX{s:Src}{g:Tg}{t:Te}{src2:Ic}{g2:Tg}{t2:Te}{e:Ex}{k:Nat}{T:Prop}(h:nH s g t src2 g2 t2 e (k+1) i τ S=.ok zs S')
  (q:∀x τ1 S1 b S2,s.get i S=some x->g x τ S=.ok τ1 S1->t τ1 S1=.ok b S2->(b=true->∃s2 S3 ps τ2 S4 ws,src2 τ1 S2=.ok s2 S3/\o4 s2 g2 t2 e s2.k 0 τ1 S3=.ok (ps,τ2) S4/\nH s g t src2 g2 t2 e k (i+1) τ2 S4=.ok ws S'/\zs=ps++ws)->(b=false->nH s g t src2 g2 t2 e k (i+1) τ1 S2=.ok zs S')->T):T:=by
 obtain⟨x,hx,h⟩:=Ca h;obtain⟨τ1,S1,h1,h⟩:=j_ h;obtain⟨b,S2,h2,h⟩:=j_ h;refine q x τ1 S1 b S2 hx h1 h2 (λhb=>?_) λhb=>?_
 ·subst hb;obtain⟨s2,S3,h3,h⟩:=j_ h;obtain⟨⟨ps,τ2⟩,S4,h4,h⟩:=j_ h;obtain⟨ws,S5,h5,h⟩:=j_ h
  cases h
  exact⟨s2,S3,ps,τ2,S4,ws,h3,h4,h5,rfl⟩
 ·subst hb;exact h
abbrev VA (K:au)(c:Ic):TI:=λσ H Q=>∃ρ S τ s S',Rel K ρ H S/\SR K ρ H τ σ/\c τ S=.ok s S'/\∀ρ' H' J,Ext ρ ρ' H H'->Rel K ρ' H' S'->JR K s J ρ' H'->Q J H'
section
variable {X:Cx}{pos:Pos}{tg iter tg2 iter2 elt e:aE}{ifs ifs2:List aE}{scope:Scope}{N:am}{cap:List (bi)}{src src2:Ic}{g g2:Tg}{t t2:Te}{c:Ex}
def AI.i0{K:au}(hK:X.K=K)(h:AI X tg e src):PI X tg e (VA K src):=λpins s σ H Q I ⟨ρ,S,τ,a,S',R,r,hc,q⟩=>h pins s σ H Q I ⟨ρ,S,τ,by rw[hK];exact R,by rw[hK];exact r,by rw[hc];exact λρ' H' J e R' v'=>q ρ' H' J e (by rw[<- hK];exact R') (by rw[<- hK];exact v')⟩
def Gi(hc:X.calm=true)(Sc:CpScope X scope N cap)(hi:AI X tg iter src)(hg:∀C s₀ H₀ ex,AG (jW X scope N C s₀ H₀ ex) tg g)(ht:∀C s₀ H₀ ex,QJ (jW X scope N C s₀ H₀ ex) ifs t)(hi2:∀C s₀ H₀ ex,AI (jW X scope N C s₀ H₀ ex) tg2 iter2 src2)
  (hg2:∀C s₀ H₀ ex,AG (jW X scope N C s₀ H₀ ex) tg2 g2) (ht2:∀C s₀ H₀ ex,QJ (jW X scope N C s₀ H₀ ex) ifs2 t2) (he:∀C s₀ H₀ ex,AE (jW X scope N C s₀ H₀ ex) elt c)
  (hs:∀x,foldedSetIterable iter X.env x=pure x:=by intro _;rfl) (hs2:∀env x,foldedSetIterable iter2 env x=pure x:=by intro _ _;rfl):AE X (.ListComp elt [⟨tg,iter,ifs,0⟩,⟨tg2,iter2,ifs2,0⟩] scope pos) (Br cap src g t src2 g2 t2 c):=by
 refine PE.imp (Og hc Sc hi (g:=QA X.K g) (tc:=Qn X.K t) (wi2:=VA X.K src2) (g2:=QA X.K g2) (tc2:=Qn X.K t2) (te:=Sd X.K c) (λC s₀ H₀ ex=>(hg C s₀ H₀ ex).g0 rfl) (λC s₀ H₀ ex=>ht C s₀ H₀ ex) (λC s₀ H₀ ex=>(hi2 C s₀ H₀ ex).i0 rfl) (λC s₀ H₀ ex=>(hg2 C s₀ H₀ ex).g0 rfl) (λC s₀ H₀ ex=>ht2 C s₀ H₀ ex) (λC s₀ H₀ ex=>(he C s₀ H₀ ex).e0 rfl) hs hs2) λσ H Q h9=>?_;room;refine⟨ρ,S,τ,R,r,jb (jh h) .refl λs S1 h1 ρ1 H1 J e1 R1 jr D hD=>?_⟩;obtain⟨ys,S2,hcg,h1⟩:=wY h1;obtain⟨hlen,h1⟩:=jv h1;have h1:vR X ρ H Q (.ref S2.length) (S2++[.lst ys]):=h1;obtain⟨eD,RD⟩:=R1.im (u:=.lst []) hD;refine⟨Cq X.K ρ1 H1 D ys s.k (λ_ _=>True) λm i τ S zs=>nH s g t src2 g2 t2 c m i τ S=.ok zs S2,⟨s.k,.of rfl ⟨eD.toExt0,λa u na hu _=>by rw[jl na];exact hu,λa ha=>.inl ha,R1.HS hD,jJ⟩ trivial RD (Nj ((r.ext e1).ext eD) cap) .nil hcg rfl⟩,?_⟩;intro i m σ3 H3 hw;refine hw.el λρ3 S3 τ3 acc zs accV hm o3 _ R3 r3 ac3 cg3 eys=>?_;clear hw
 cases m with
 | zero=>
  left;have cg3:(if s.fin S3 then Am.R.ok [] S3 else .no)=.ok zs S2:=cg3
  cases hf:s.fin S3 with
  | false=>rw[hf]at cg3;cases cg3
  | true=>
   rw[hf]at cg3
   cases cg3
   rw[cA]at eys;subst eys;refine⟨by rw[show i=s.k by lia];exact jr.stop _ H3 ρ3 o3.e0 R3 hf,?_⟩;obtain⟨RT,gt⟩:=R3.take o3.hD o3.nD ac3;exact h1 (ρ3++[D]) H3 _ (e1.trans (o3.end hD)) RT (.ref gt)
 | succ m=>
  right;refine yX cg3 λx τ4 S4 b S5 hx hg4 ht5 hT hF=>?_;have jg:=jr.go i S3 H3 ρ3 x o3.e0 R3 hx;refine⟨jg.1,λv H4 y=>?_⟩;obtain⟨e4,R4,v4⟩:=jg.2 v H4 y;refine⟨ρ3,S3,τ3,x,τ4,S4,R4,r3.ext e4,v4,hg4,λρ5 H5 σ5 e5 R5 r5=>⟨ρ5,S4,τ4,b,S5,R5,r5,ht5,λρ6 H6 e6 R6=>?_⟩⟩;have e36:=(e4.trans e5).trans e6
  cases b with
  | false=>
   dsimp only;rw[aM bq];exact⟨m,cP _,.of () (o3.stay hD e36) trivial R6 (r5.ext e6) (ac3.ext e36) (hF rfl) eys⟩
  | true=>
   dsimp only;rw[aN rfl];obtain⟨s2,S6,ps,τ7,S7,ws,hs6,ci7,co7,ezs⟩:=hT rfl;refine⟨ρ6,S5,τ4,s2,S6,R6,r5.ext e6,hs6,λρ8 H8 J2 e8 R8 jr2=>?_⟩;have e38:=e36.trans e8;refine⟨Cq X.K ρ1 H1 D (acc++ps) s2.k (λρ' H'=>Ext0 ρ8 ρ' H8 H') λm i τ S qs=>o4 s2 g2 t2 c m i τ S=.ok (qs,τ7) S7,⟨s2.k,.of rfl (o3.stay hD e38) ⟨dI _,λ_ _ _ h=>h⟩ R8 (r5.ext (e6.trans e8)) (ac3.ext e38) ci7 rfl⟩,?_⟩;intro i2 m2 σ9 H9 hw;refine hw.el λρ9 S9 τ9 acc9 qs accV9 hm2 o9 e89 R9 r9 ac9 ci9 eqs=>?_;clear hw
   cases m2 with
   | zero=>
    left;have ci9:(if s2.fin S9 then Am.R.ok ([],τ9) S9 else .no)=.ok (qs,τ7) S7:=ci9
    cases hf:s2.fin S9 with
    | false=>rw[hf]at ci9;cases ci9
    | true=>
     rw[hf]at ci9
     cases ci9
     rw[cA]at eqs;subst eqs;exact⟨by rw[show i2=s2.k by lia];exact jr2.stop _ H9 ρ9 e89 R9 hf,m,cP _,.of () o9 trivial R9 r9 ac9 co7 (by rw[bH,<- ezs,eys])⟩
   | succ m2=>
    right;refine Ao ci9 λx9 τ10 S10 b10 S11 hx9 hg10 ht11 hT9 hF9=>?_;have jg2:=jr2.go i2 S9 H9 ρ9 x9 e89 R9 hx9;refine⟨jg2.1,λv10 H10 y10=>?_⟩;obtain⟨e10,R10,v10'⟩:=jg2.2 v10 H10 y10;refine⟨ρ9,S9,τ9,x9,τ10,S10,R10,r9.ext e10,v10',hg10,λρ11 H11 σ11 e11 R11 r11=>⟨ρ11,S10,τ10,b10,S11,R11,r11,ht11,λρ12 H12 e12 R12=>?_⟩⟩;have e912:=(e10.trans e11).trans e12;have o12:=o9.stay hD e912;have e812:Ext0 ρ8 ρ12 H8 H12:=⟨e89.pre.trans e912.pre,λa u i h=>e912.im a u i (e89.im a u i h)⟩
    cases b10 with
    | false=>
     dsimp only;rw[aM bq];exact⟨m2,cP _,.of () o12 e812 R12 (r11.ext e12) (ac9.ext e912) (hF9 rfl) eqs⟩
    | true=>
     dsimp only;rw[aN rfl];obtain⟨y,S13,us,he13,ci13,eus⟩:=hT9 rfl;refine⟨ρ12,S11,τ10,y,S13,R12,r11.ext e12,he13,λρ14 H14 w e14 R14 v14=>?_⟩;have o14:=o12.stay hD e14;obtain⟨ex15,R15⟩:=R14.out (ws:=accV9++[w]) o14.hD o14.nD;have l1:=ac9.length;refine⟨accV9,o14.hD,?_,m2,cP _,.of () (o14.put ex15) ⟨e812.pre.trans e14.pre,λa u i h=>ex15.im a u i (e14.im a u i (e812.im a u i h))⟩ R15 ((r11.ext (e12.trans e14)).kM ex15) (AVs.kM ex15 ((ac9.ext (e912.trans e14)).append (.one v14))) ci13 ?_⟩
     ·have:((acc++ps)++ws).length<=sizeLine:=by rw[bH,<- ezs,eys];exact hlen
      rw[<- eqs,eus,aU,aU,bI]at this
      lia
     ·rw[bH,<- eqs,eus];rfl
end
abbrev Tt (F:ad->jd->R A)(d:pO):Ex:=λτ S=>(d τ S).bind λas S1=>F as S1
abbrev Vg:ap:=[.type "ValueError",.type "Exception",.type "BaseException",.type "object"]
abbrev L7:List (Str ⊕ Ex)->ad->jd->R Unit
 | [],_,S=>.ok Unit.unit S
 | .inl _::ps,τ,S=>L7 ps τ S
 | .inr e::ps,τ,S=>(e τ S).bind λv S1=>match v with
  | .int i=>gd (i.natAbs.log2<64) (L7 ps τ S1)
  | _=>.no
abbrev OT (c:Str)(ps:List (Str ⊕ Ex)):Sm:=λτ S=>.of (L7 ps τ S) λ_ S1=>.ex c S1
abbrev ML (i:Nat):RS->RS
 | .nx τ S=>.nx (τ.set i .unb) S
 | .bk τ S=>.bk (τ.set i .unb) S
 | .ct τ S=>.ct (τ.set i .unb) S
 | .rt a S=>.rt a S
 | _=>.no
abbrev QU (i n:Nat)(cs:am)(c d:Sm):Sm:=λτ S=>match c τ S with
 | .ex x S1=>if x∈cs then ML i (d ((List.replicate n .unb).set i (.exn x)) S1)else .no
 | r=>r
abbrev T9 (f:Str->bd)(c:Ex):Ex:=λτ S=>(c τ S).bind λv S1=>match v with
 | .exn x=>opt (f x) λb=>.ok (.bl b) S1
 | _=>.no
structure ExcK (K:au)(U:ak)(c:Str)(C:ak):Prop where
 n:UN K c C
 q:PySem.W.excIn K C Vg "ValueError.__new__" = true
 r:L2.mroIn K C=some (.ref U::Vg)
 x:XCls K C
 cl:(PySem.W.clsIn K C).isSome=true
 v:PySem.W.kitOne K (.ref C) (.type "ValueError")=some true
abbrev V9 (tb:List (Str×Bool)):Str->bd:=λx=>tb.lookup x
abbrev RX (F:ad->jd->R A)(d:pO):Ex:=λτ S=>match d τ S with
 | .ok as S1=>F as S1
 | _=>.no
section
variable {d:pO}
abbrev RK (t:Te)(c d:Sm):Sm:=λτ S=>match t τ S with
 | .ok true S1=>c τ S1
 | .ok false S1=>d τ S1
 | _=>.no
end
abbrev ME (i:Nat)(cs:am)(c d:Sm):Sm:=λτ S=>match c τ S with
 | .ex x S1=>if x∈cs then ML i (d (τ.set i (.exn x)) S1)else .no
 | r=>r
abbrev SS:Sm:=λ_ _=>.no
def JC{X:Cx}{st:aF}:AS X st SS:=PS.imp Gn λD σ H ⟨ρ,S,τ,R,r,h⟩=>h.elim
def Fg{K:au}{H:Hp}{a:ak}{ns:ae}{F:ad->jd->R A}(hO:LP H)(hS:mw K H a (ns.map V.int))(h:∃S',F [.frz (ns.map .int)] []=.ok (.bl true) S'):rf K 1 F [.ref a] H (λv _=>v=.bl true) λ_ _ _=>False:=by
 obtain⟨S',h⟩:=h;have fz:Fz K H a (ns.map V.int):=by
  rcases hS with(h|⟨o,h⟩)|h
  ·rcases hO a with z|⟨ob,xs,z⟩
   ·rw[h]at z;cases z
   ·rw[h]at z;cases z
  ·exact .inl ⟨o,h⟩
  ·exact .inr h
 exact⟨rfl,[],[],_,_,S',⟨rfl,ig,λn a o h=>by simp at h⟩,.cons (.frz fz (nQ ns)) .nil,h,λρ' H' v _ _ hv=>CV hv⟩
def HB{P:ap->Prop}(h:∀a0,P [a0]):∀us:ap,us.length=1->P us
 | [_],_=>h _
def KG{P:ap->Prop}(h:∀a0 a1,P [a0,a1]):∀us:ap,us.length=2->P us
 | [_,_],_=>h _ _
def Ar{n:Nat}{us:ap}(h:us.length=n+1):∃a t,us=a::t/\t.length=n:=by
 cases us with
 | nil=>simp at h
 | cons a t=>exact⟨a,t,rfl,by simpa using h⟩
def US{P:ap->Prop}(h:∀a0 a1 a2,P [a0,a1,a2]):∀us:ap,us.length=3->P us:=λus e=>by
 obtain⟨a0,t0,rfl,e0⟩:=Ar e;obtain⟨a1,t1,rfl,e1⟩:=Ar e0;obtain⟨a2,t2,rfl,e2⟩:=Ar e1
 cases dm.mp e2
 exact h _ _ _
def V2{P:ap->Prop}(h:∀a0 a1 a2 a3 a4,P [a0,a1,a2,a3,a4]):∀us:ap,us.length=5->P us:=λus e=>by
 obtain⟨a0,t0,rfl,e0⟩:=Ar e;obtain⟨a1,t1,rfl,e1⟩:=Ar e0;obtain⟨a2,t2,rfl,e2⟩:=Ar e1;obtain⟨a3,t3,rfl,e3⟩:=Ar e2;obtain⟨a4,t4,rfl,e4⟩:=Ar e3
 cases dm.mp e4
 exact h _ _ _ _ _
end Am
namespace Am
open PySem L2
section
variable {α β:Type}{a b:A}{S S1:jd}{τ:ad}{x:α}
@[simp]def R.kP {f:α->jd->R β}:(R.ok x S).bind f=f x S:=rfl
@[simp]def R.DE {f:α->jd->R β}{c:Str}:(R.ex c S:R α).bind f=.ex c S:=rfl
@[simp]def R.ku {f:α->jd->R β}:(R.ok x S).kQ f=f x S:=rfl
@[simp]def RS.of_ok {f:α->jd->RS}:RS.of (R.ok x S) f=f x S:=rfl
@[simp]def RS.MX {f:α->jd->RS}{c:Str}:RS.of (R.ex c S:R α) f=.ex c S:=rfl
@[simp]def jx {f:β->R α}{y:β}:opt (some y) f=f y:=rfl
@[simp]def Dm {r:R α}:gd True r=r:=aN trivial
theorem kc{c:Prop}[Decidable c]{r:R α}(h:c):gd c r=r:=aN h
@[simp]def Eh {i:Nat}:i7 i τ S=bif (τ.getD i .unb).ni then .no else .ok (τ.getD i .unb) S:=by unfold i7;cases(τ.getD i .unb).ni<;>rfl
@[simp]def EN {xs:ad}:A.ni (.tup xs)=false:=rfl
@[simp]def CY {xs:ad}:A.ni (.frz xs)=false:=rfl
@[simp]def Dj {i:Int}:A.ni (.int i)=false:=rfl
@[simp]def G9 {i:Bool}:A.ni (.bl i)=false:=rfl
@[simp]def C6 {i:Str}:A.ni (.str i)=false:=rfl
@[simp]def CU {i:Nat}:A.ni (.ref i)=false:=rfl
@[simp]def EL:A.ni .non=false:=rfl
@[simp]def Cz {i j:Int}:A.ni (.rng i j)=false:=rfl
@[simp]def E3 {c:Str}:A.ni (.exn c)=false:=rfl
@[simp]def MT:eC a τ S=.ok a S:=rfl
abbrev RY (f:A->A->jd->R A)(cb:Ex)(τ:ad)(a:A)(S:jd):R A:=(cb τ S).bind (f a)
@[simp]def DJ {f:A->A->jd->R A}{cb:Ex}:RY f cb τ a S=(cb τ S).bind (f a):=rfl
@[simp]def DM {f:A->A->jd->R A}{ca cb:Ex}:jc f ca cb τ S=(ca τ S).bind (RY f cb τ):=rfl
@[simp]def GH {f:A->jd->R A}{ca:Ex}:Bj f ca τ S=(ca τ S).bind f:=rfl
@[simp]def EA {c:Ex}:sU c τ S=(c τ S).bind λa S1=>opt (a.P8 S1) λb=>.ok b S1:=rfl
abbrev aB (a:A)(S:jd):R Bool:=match a with
 | .bl b=>.ok b S
 | _=>.no
@[simp]def M_ {b:Bool}:aB (.bl b) S=.ok b S:=rfl
@[simp]def JF {c:Ex}:nG c τ S=(c τ S).bind aB:=rfl
@[simp]def Dh {c:Te}:P6 c τ S=(c τ S).bind λb S1=>.ok (!b) S1:=rfl
abbrev PX (d:Te)(τ:ad)(b:Bool)(S:jd):R Bool:=match b with|true=>d τ S|false=>.ok false S
abbrev UP (d:Te)(τ:ad)(b:Bool)(S:jd):R Bool:=match b with|true=>.ok true S|false=>d τ S
@[simp]def HU {d:Te}:PX d τ true S=d τ S:=rfl
@[simp]def Ky {d:Te}:PX d τ false S=.ok false S:=rfl
@[simp]def Nr {d:Te}:UP d τ true S=.ok true S:=rfl
@[simp]def M6 {d:Te}:UP d τ false S=d τ S:=rfl
@[simp]def E2 {c d:Te}:AK c d τ S=(c τ S).bind (PX d τ):=rfl
@[simp]def KA {c d:Te}:F_ c d τ S=(c τ S).bind (UP d τ):=rfl
@[simp]def EU:uS τ S=.ok true S:=rfl
abbrev G0 (d:Ex)(τ:ad)(a:A)(S:jd):R A:=match a with | .bl true=>d τ S | .bl false=>.ok (.bl false) S|_=>.no
abbrev NU (d:Ex)(τ:ad)(a:A)(S:jd):R A:=match a with | .bl true=>.ok (.bl true) S | .bl false=>d τ S|_=>.no
@[simp]def D9 {d:Ex}:G0 d τ (.bl true) S=d τ S:=rfl
@[simp]def Ct {d:Ex}:G0 d τ (.bl false) S=.ok (.bl false) S:=rfl
@[simp]def JN {d:Ex}:NU d τ (.bl true) S=.ok (.bl true) S:=rfl
@[simp]def Jw {d:Ex}:NU d τ (.bl false) S=d τ S:=rfl
@[simp]def Dt {c d:Ex}:SJ c d τ S=(c τ S).bind (G0 d τ):=by
 unfold SJ
 cases c τ S with
 | ok a S1=>cases a<;>first|rfl|(rename_i b;cases b<;>rfl)
 | _=>rfl
@[simp]def GZ {c d:Ex}:U9 c d τ S=(c τ S).bind (NU d τ):=by
 unfold U9
 cases c τ S with
 | ok a S1=>cases a<;>first|rfl|(rename_i b;cases b<;>rfl)
 | _=>rfl
abbrev MS (a:A)(S:jd):R A:=match a with | .bl b=>.ok (.bl !b) S|_=>.no
@[simp]def AU {b:Bool}:MS (.bl b) S=.ok (.bl !b) S:=rfl
@[simp]def EH {c:Ex}:Qg c τ S=(c τ S).bind MS:=rfl
abbrev P5 (c d:Ex)(τ:ad)(b:Bool)(S:jd):R A:=match b with|true=>c τ S|false=>d τ S
@[simp]def Iw {c d:Ex}:P5 c d τ true S=c τ S:=rfl
@[simp]def GW {c d:Ex}:P5 c d τ false S=d τ S:=rfl
@[simp]def IQ {t:Te}{c d:Ex}:VG t c d τ S=(t τ S).bind (P5 c d τ):=rfl
@[simp]def EE:jj τ S=.ok [] S:=rfl
abbrev By (a:A)(as:ad)(S:jd):R (ad):=.ok (a::as) S
abbrev M4 (d:pO)(τ:ad)(a:A)(S:jd):R (ad):=(d τ S).bind (By a)
@[simp]def yj {as:ad}:By a as S=.ok (a::as) S:=rfl
@[simp]def A8 {d:pO}:M4 d τ a S=(d τ S).bind (By a):=rfl
@[simp]def z9 {c:Ex}{d:pO}:i8 c d τ S=(c τ S).bind (M4 d τ):=rfl
@[simp]def Dy {d:pO}:rJ d τ S=(d τ S).bind λas S1=>gd (as.length<=sizeLine) (.ok (.tup as) S1):=rfl
@[simp]def CO {d:pO}:rz d τ S=(d τ S).bind newL:=rfl
theorem jQ{as:ad}(h:as.length<=16777216):newL as S=.ok (.ref S.length) (S++[.lst as]):=kc (by rw[cV];exact h)
@[simp]def Aq {f:ad->jd->R A}{d:pO}:jz f d τ S=(d τ S).bind f:=rfl
abbrev Tc (r:R A):R A:=match r with
 | .ok a S=>.ok a S
 | _=>.no
@[simp]def GX:Tc (.ok a S)=.ok a S:=rfl
abbrev Vb (f:ad->jd->R A)(as:ad)(S:jd):R A:=Tc (f as S)
@[simp]def JE {f:ad->jd->R A}{as:ad}:Vb f as S=Tc (f as S):=rfl
@[simp]def Kf {f:ad->jd->R A}{d:pO}:eFn f d τ S=(d τ S).bind (Vb f):=rfl
@[simp]def MD {g:A->jd->R A}:f1 g [a] S=g a S:=rfl
@[simp]def Nt {g:A->A->jd->R A}:f2 g [a,b] S=g a b S:=rfl
abbrev PY (h:Pt)(τ:ad)(a:A)(l:bb)(S:jd):R A:=(h τ S).bind (F9 a l)
abbrev Vy (l h:Pt)(τ:ad)(a:A)(S:jd):R A:=(l τ S).bind (PY h τ a)
@[simp]def Ey {h:Pt}{l:bb}:PY h τ a l S=(h τ S).bind (F9 a l):=rfl
@[simp]def Jp {l h:Pt}:Vy l h τ a S=(l τ S).bind (PY h τ a):=rfl
@[simp]def JY {c:Ex}{l h:Pt}:QL c l h τ S=(c τ S).bind (Vy l h τ):=rfl
@[simp]def Bc:Eo τ S=.ok none S:=rfl
abbrev Vk (a:A)(S:jd):R (bb):=match a with
 | .int i=>.ok (some i) S
 | _=>.no
@[simp]def De {i:Int}:Vk (.int i) S=.ok (some i) S:=rfl
@[simp]def AA {c:Ex}:uH c τ S=(c τ S).bind Vk:=rfl
abbrev N_ (f:A->ad->jd->R A)(d:pO)(τ:ad)(o:A)(S:jd)(_:ad):R A:=(d τ S).bind (f o)
abbrev Vt (f:A->ad->jd->R A)(d:pO)(τ:ad)(o:A)(S:jd):R A:=opt (o.lst? S) (N_ f d τ o S)
@[simp]def C5 {f:A->ad->jd->R A}{d:pO}{xs:ad}:N_ f d τ a S xs=(d τ S).bind (f a):=rfl
@[simp]def H_ {f:A->ad->jd->R A}{d:pO}:Vt f d τ a S=opt (a.lst? S) (N_ f d τ a S):=rfl
@[simp]def Gj {f:A->ad->jd->R A}{c:Ex}{d:pO}:QG f c d τ S=(c τ S).bind (Vt f d τ):=rfl
@[simp]def DC {f:A->ad->jd->R A}{c:Ex}:OJ f c τ S=(c τ S).bind λo S1=>opt (o.lst? S1) λ_=>f o [] S1:=rfl
@[simp]def lst?_ref {n:Nat}:A.lst? S (.ref n)=i_ S n:=rfl
abbrev RS.seq (r:RS)(d:Sm):RS:=match r with
 | .nx τ S=>d τ S
 | r=>r
@[simp]def RS.IC {d:Sm}:RS.seq (.nx τ S) d=d τ S:=rfl
@[simp]def RS.Iu {d:Sm}:RS.seq (.rt a S) d=.rt a S:=rfl
@[simp]def RS.IE {d:Sm}{c:Str}:RS.seq (.ex c S) d=.ex c S:=rfl
@[simp]def RS.Im {d:Sm}:RS.seq (.bk τ S) d=.bk τ S:=rfl
@[simp]def RS.GN {d:Sm}:RS.seq (.ct τ S) d=.ct τ S:=rfl
@[simp]def CC {c d:Sm}:jF c d τ S=RS.seq (c τ S) d:=by unfold jF RS.seq;cases c τ S<;>rfl
@[simp]def Ef:m_ τ S=.nx τ S:=rfl
@[simp]def xV:Pp τ S=.bk τ S:=rfl
@[simp]def Aw:RP τ S=.ct τ S:=rfl
@[simp]def Bd {e:Ex}:uQ e τ S=RS.of (e τ S) λ_ S1=>.nx τ S1:=rfl
@[simp]def D8 {e:Ex}:kg e τ S=RS.of (e τ S) .rt:=rfl
@[simp]def AB:HF τ S=.rt .non S:=rfl
abbrev Tj (c d:Sm)(τ:ad)(b:Bool)(S:jd):RS:=match b with|true=>c τ S|false=>d τ S
@[simp]def MU {c d:Sm}:Tj c d τ true S=c τ S:=rfl
@[simp]def Nh {c d:Sm}:Tj c d τ false S=d τ S:=rfl
@[simp]def JL {t:Te}{c d:Sm}:uK t c d τ S=RS.of (t τ S) (Tj c d τ):=rfl
abbrev O9 (g:Tg)(τ:ad)(a:A)(S:jd):RS:=RS.of (g a τ S) .nx
@[simp]def CK {g:Tg}:O9 g τ a S=RS.of (g a τ S) .nx:=rfl
@[simp]def CN {e:Ex}{g:Tg}:j7 e g τ S=RS.of (e τ S) (O9 g τ):=rfl
@[simp]def Jj {i:Nat}:jU i a τ S=.ok (τ.set i a) S:=rfl
abbrev NS (a o:A)(τ:ad)(i:A)(S:jd):R (ad):=(z_ o i a S).bind λ_ S3=>.ok τ S3
abbrev Ve (ci:Ex)(τ:ad)(a o:A)(S:jd):R (ad):=(ci τ S).bind (NS a o τ)
@[simp]def ES {o i:A}:NS a o τ i S=(z_ o i a S).bind λ_ S3=>.ok τ S3:=rfl
@[simp]def HY {ci:Ex}{o:A}:Ve ci τ a o S=(ci τ S).bind (NS a o τ):=rfl
@[simp]def IW {co ci:Ex}:QE co ci a τ S=(co τ S).bind (Ve ci τ a):=rfl
@[simp]def Jd {n:Nat}{gs:KH}{xs:ad}:zH n gs (.tup xs) τ S=gd (xs.length=n) (gs xs τ S):=rfl
@[simp]def IF:zJ [] τ S=.ok τ S:=rfl
@[simp]def Kx {g:Tg}{gs:KH}{as:ad}:qM g gs (a::as) τ S=(g a τ S).bind (gs as):=rfl
abbrev Vi (i j:Nat)(τ:ad)(as:ad)(S:jd):RS:=match as with
 | [a,b]=>.nx ((τ.set i a).set j b) S
 | _=>.no
@[simp]def J6 {i j:Nat}:Vi i j τ [a,b] S=.nx ((τ.set i a).set j b) S:=rfl
@[simp]def Di {i j:Nat}{c:pO}:T8 i j c τ S=RS.of (c τ S) (Vi i j τ):=rfl
abbrev IP (i:Nat)(τ:ad)(c:A)(S:jd):RS:=.nx (τ.set i c) S
abbrev Q2 (i:Nat)(f:A->A->jd->R A)(τ:ad)(b:A)(S:jd):RS:=.of (f (τ.getD i .unb) b S) (IP i τ)
@[simp]def A4 {i:Nat}:IP i τ a S=.nx (τ.set i a) S:=rfl
@[simp]def Du {i:Nat}{f:A->A->jd->R A}:Q2 i f τ a S=.of (f (τ.getD i .unb) a S) (IP i τ):=rfl
@[simp]def CS {i:Nat}{f:A->A->jd->R A}{e:Ex}:IK i f e τ S=bif (τ.getD i .unb).ni then .no else .of (e τ S) (Q2 i f τ):=by
 unfold IK;cases(τ.getD i .unb).ni<;>rfl
abbrev UQ (o i:A)(τ:ad)(z:A)(S:jd):RS:=.of (z_ o i z S) λ_ S6=>.nx τ S6
abbrev TN (f:A->A->jd->R A)(o i x:A)(τ:ad)(y:A)(S:jd):RS:=.of (f x y S) (UQ o i τ)
abbrev Ul (ce:Ex)(f:A->A->jd->R A)(o i:A)(τ:ad)(x:A)(S:jd):RS:=.of (ce τ S) (TN f o i x τ)
abbrev UM (ce:Ex)(f:A->A->jd->R A)(o:A)(τ:ad)(i:A)(S:jd):RS:=.of (Jf o i S) (Ul ce f o i τ)
abbrev Vd (ci ce:Ex)(f:A->A->jd->R A)(τ:ad)(o:A)(S:jd):RS:=.of (ci τ S) (UM ce f o τ)
@[simp]def GO {o i:A}:UQ o i τ a S=.of (z_ o i a S) λ_ S6=>.nx τ S6:=rfl
@[simp]def HP {f:A->A->jd->R A}{o i x:A}:TN f o i x τ a S=.of (f x a S) (UQ o i τ):=rfl
@[simp]def IY {ce:Ex}{f:A->A->jd->R A}{o i:A}:Ul ce f o i τ a S=.of (ce τ S) (TN f o i a τ):=rfl
@[simp]def HR {ce:Ex}{f:A->A->jd->R A}{o:A}:UM ce f o τ a S=.of (Jf o a S) (Ul ce f o a τ):=rfl
@[simp]def HZ {ci ce:Ex}{f:A->A->jd->R A}:Vd ci ce f τ a S=.of (ci τ S) (UM ce f a τ):=rfl
@[simp]def AN {co ci ce:Ex}{f:A->A->jd->R A}:uN co ci ce f τ S=RS.of (co τ S) (Vd ci ce f τ):=rfl
abbrev RS.end (r:RS):R A:=match r with
 | .rt a S'=>.ok a S'
 | .nx _ S'=>.ok .non S'
 | .ex c S'=>.ex c S'
 | _=>.no
@[simp]def RS.Hz:RS.end (.rt a S)=.ok a S:=rfl
@[simp]def RS.Jt:RS.end (.nx τ S)=.ok .non S:=rfl
@[simp]def RS.JI {c:Str}:RS.end (.ex c S)=.ex c S:=rfl
theorem sF {N:am}{m:Sm}{as:ad}:lR N m as S=RS.end (m (as++List.replicate (N.length-as.length) .unb) S):=by
 unfold lR RS.end;cases m (as++List.replicate (N.length-as.length) .unb) S<;>rfl
@[simp]def Iz {i j:Int}:kW (.int i) (.int j) S=.ok (.int (i+j)) S:=rfl
@[simp]def Je {i j:Int}:aSub (.int i) (.int j) S=.ok (.int (i-j)) S:=rfl
@[simp]def G6 {i j:Int}:BF (.int i) (.int j) S=.ok (.int (i+j)) S:=rfl
theorem Gv{i j:Int}(h:-18446744073709551616<i)(h':i<18446744073709551616):sE (.int i) (.int j) S=.ok (.int (i * j)) S:=kc (by unfold zT;simp;left;exact⟨by omega,by omega⟩)
def mul_r{i j:Int}(h:-18446744073709551616<j)(h':j<18446744073709551616):sE (.int i) (.int j) S=.ok (.int (i * j)) S:=kc (by unfold zT;simp;right;exact⟨(),()⟩)
def IA{i j:Int}(h:0<j)(h':j<1073741824):Dk (.int i) (.int j) S=.ok (.int (i / j)) S:=kc ⟨h,()⟩
def AZ{i j:Int}(h:0<j):zf (.int i) (.int j) S=.ok (.int (i % j)) S:=kc h
@[simp]def Nz {i j:Int}:EW (.int i) (.int j) S=.ok (.bl (decide (i<j))) S:=rfl
@[simp]def Np {i j:Int}:SX (.int i) (.int j) S=.ok (.bl (decide (i<=j))) S:=rfl
@[simp]def M3 {i j:Int}:yq (.int i) (.int j) S=.ok (.bl (decide (j<i))) S:=rfl
@[simp]def Nm {i j:Int}:V0 (.int i) (.int j) S=.ok (.bl (decide (j<=i))) S:=rfl
@[simp]def Nf {i j:Bool}:zo false (.bl i) (.bl j) S=.ok (.bl (i == j)) S:=rfl
@[simp]def GS {i j:Bool}:zo true (.bl i) (.bl j) S=.ok (.bl (i != j)) S:=rfl
@[simp]def IX {i:Int}:zF (.int i) S=.ok (.int (-i)) S:=rfl
@[simp]def Kr {xs:ad}:mD (.tup xs) S=.ok (.int xs.length) S:=rfl
@[simp]def KD {xs:ad}:mD (.frz xs) S=.ok (.int xs.length) S:=rfl
@[simp]def JJ {n:Nat}:mD (.ref n) S=opt (i_ S n) λxs=>.ok (.int xs.length) S:=rfl
@[simp]def J3 {i:Int}:Qx (.int i) S=.ok (.int (if i<0 then -i else i)) S:=rfl
@[simp]def D4 {i j:Int}:El (.int i) (.int j) S=.ok (.int (if j>i then j else i)) S:=rfl
@[simp]def Ck {i j:Int}:Cr (.int i) (.int j) S=.ok (.int (if j<i then j else i)) S:=rfl
@[simp]def Cu {i:Int}:MG (.int i) S=.ok (.int i) S:=rfl
@[simp]def DY {i:Bool}:MG (.bl i) S=.ok (.int (if i then 1 else 0)) S:=rfl
@[simp]def xK {i j:Int}:tw (.int i) (.int j) S=.ok (.rng i j) S:=rfl
@[simp]def MI {xs:ad}{i:Int}:lC (.tup xs) (.int i) S=opt (mC xs i) λx=>.ok x S:=rfl
@[simp]def M8 {xs:ad}{i:Int}:lC (.frz xs) (.int i) S=opt (mC xs i) λx=>.ok x S:=rfl
@[simp]def Na {n:Nat}{i:Int}:lC (.ref n) (.int i) S=opt (i_ S n) λxs=>opt (mC xs i) λx=>.ok x S:=rfl
@[simp]def Ka {n:Nat}{k:Int}:z_ (.ref n) (.int k) a S=opt (i_ S n) λxs=>opt (vh xs.length k) λj=>.ok Unit.unit (S.set n (.lst (xs.set j a))):=rfl
@[simp]def Jx {n:Nat}{i:Int}:Jf (.ref n) (.int i) S=opt (i_ S n) λxs=>gd (0<=i) (opt (xs[i.toNat]?) λx=>.ok x S):=rfl
theorem FD{i j:Int}(h:vW i j):vC (.rng i j) S=.ok (.ref S.length) (S++[.lst ((jw i j).map .int)]):=kc h
def wI{i j:Int}(h:vW i j):p6 (.rng i j) S=.ok (.tup ((jw i j).map .int)) S:=kc h
@[simp]def CA {xs:ad}:vC (.tup xs) S=.ok (.ref S.length) (S++[.lst xs]):=rfl
@[simp]def DU {xs:ad}:vC (.frz xs) S=.ok (.ref S.length) (S++[.lst xs]):=rfl
@[simp]def DG {n:Nat}:vC (.ref n) S=opt (i_ S n) λxs=>.ok (.ref S.length) (S++[.lst xs]):=rfl
@[simp]def Bg {xs:ad}:p6 (.tup xs) S=.ok (.tup xs) S:=rfl
@[simp]def zY {n:Nat}:p6 (.ref n) S=opt (i_ S n) λxs=>.ok (.tup xs) S:=rfl
@[simp]def HN {xs:ad}:xG (.tup xs) S=.ok (.tup xs.reverse) S:=rfl
@[simp]def HG {n:Nat}:xG (.ref n) S=opt (i_ S n) λxs=>.ok (.ref S.length) (S++[.lst xs.reverse]):=rfl
@[simp]def MV {n:Nat}{l u:bb}:F9 (.ref n) l u S=opt (i_ S n) λxs=>.ok (.ref S.length) (S++[.lst (sI xs l u)]):=rfl
@[simp]def wG {n:Nat}:se (.ref n) [a] S=opt (i_ S n) λxs=>gd (xs.length<sizeLine) (.ok .non (S.set n (.lst (xs++[a])))):=rfl
@[simp]def ID {b:Bool}:A.P8 (.bl b) S=some b:=rfl
@[simp]def DA {i:Int}:A.P8 (.int i) S=some (i != 0):=rfl
theorem P7{o:O}:(S++[o])[S.length]?=some o:=by simp
@[simp]def jq {xs:ad}:i_ (S++[.lst xs]) S.length=some xs:=sJ P7
theorem kq{o:O}{n:Nat}(h:i_ S n=some xs):i_ (S++[o]) n=some xs:=by
 have h':=jn h;exact sJ (by rw[bD (aJ.mp h').1];exact h')
def n9{n:Nat}(h:i_ S n=some xs):n<S.length:=(aJ.mp (jn h)).1
def lY{n:Nat}(h:n<S.length):i_ (S.set n (.lst ys)) n=some ys:=sJ (b8 h)
def mO{n:Nat}(h:n≠m):i_ (S.set n (.lst ys)) m=i_ S m:=by unfold i_;rw[bW h]
def Bt{xs:ad}{i:Int}{k:Nat}{x:A}(h:i=k)(hx:xs[k]?=some x):mC xs i=some x:=by rw[h];exact Mu hx
def tX{n:Nat}{i:Int}{k:Nat}(h:i=k)(hk:k<n):vh n i=some k:=by
 subst h;unfold vh;rw[aN (),aN ()];simp
end
structure Kp (b:Nat->Prop)(S S':jd):Prop where
 len:S.length<=S'.length
 obj:∀(n:Nat) (o:O),¬b n->S[n]?=some o->S'[n]?=some o
meta abbrev nO:=Kp λ_=>False
def Kp.lst{b:Nat->Prop}(h:Kp b S S')(n:Nat)(xs:ad)(hb:¬b n)(e:i_ S n=some xs):i_ S' n=some xs:=sJ (h.obj n _ hb (jn e))
def Kp.dct{b:Nat->Prop}(h:Kp b S S')(n:Nat)(xs:List (ae×A))(hb:¬b n)(e:jO S n=some xs):jO S' n=some xs:=sD (h.obj n _ hb (nP e))
def Kp.refl{b:Nat->Prop}:Kp b S S:=⟨aP _,λ_ _ _ h=>h⟩
def Kp.trans{b:Nat->Prop}(h:Kp b S S1)(h':Kp b S1 S2):Kp b S S2:=⟨bS h.len h'.len,λn xs hb e=>h'.obj n xs hb (h.obj n xs hb e)⟩
def Bv{S:jd}{n:Nat}(e:S[n]?=some o):n<S.length:=(aJ.mp e).1
def Kp.lay{b:Nat->Prop}{o:O}(h:Kp b S S1):Kp b S (S1++[o]):=⟨bS h.len (by simp),λn xs hb e=>by
 have:=h.obj n xs hb e;rw[bD (Bv this)];exact this⟩
def Kp.N1{b:Nat->Prop}{S S1:jd}(h:Kp b S S1)(hm:b m\/S.length<=m):Kp b S (S1.set m o):=⟨by rw[bG];exact h.len,λn xs hb e=>by
 have:m≠n:=λz=>by
  subst z
  rcases hm with z|z
  ·exact hb z
  ·exact absurd (Bv e) ()
 rw[bW this];exact h.obj n xs hb e⟩
def Kp.set{b:Nat->Prop}{S S1:jd}(h:Kp b S S1)(hm:b m\/S.length<=m):Kp b S (S1.set m (.lst ys)):=h.N1 hm
def Kp.old{b c:Nat->Prop}{S:jd}(h:Kp b S S1)(h':Kp c S1 S2)(hc:∀n,n<S.length->¬b n->¬c n):Kp b S S2:=⟨bS h.len h'.len,λn xs hb e=>h'.obj n xs (hc n (Bv e) hb) (h.obj n xs hb e)⟩
theorem qu{t:Te}{c:Sm}(Inv:ad->jd->Prop)(μ:ad->jd->Nat)(Post:RS->Prop)
  (h:∀τ S,Inv τ S->(∃S1,t τ S=.ok false S1/\Post (.nx τ S1))\/(∃S1,t τ S=.ok true S1/\((∃τ' S',c τ S1=.nx τ' S'/\Inv τ' S'/\μ τ' S'<μ τ S)\/(∃a S',c τ S1=.rt a S'/\Post (.rt a S'))))) :
  ∀n τ S,Inv τ S->μ τ S<n->Post (kT t c n τ S)
 | 0,_,_,_,hn=>absurd hn (gT _)
 | n+1,τ,S,hi,hn=>by
  unfold kT
  rcases h τ S hi with⟨S1,e,q⟩|⟨S1,e,⟨τ',S',e2,hi',hm⟩|⟨a,S',e2,q⟩⟩
  ·rw[e];exact q
  ·rw[e];show Post (match c τ S1 with
    | .nx τ' S'=>kT t c n τ' S'
    | .ct τ' S'=>kT t c n τ' S'
    | .bk τ' S'=>.nx τ' S'
    | r=>r)
   rw[e2];exact qu Inv μ Post h n τ' S' hi' ()
  ·rw[e];show Post (match c τ S1 with
    | .nx τ' S'=>kT t c n τ' S'
    | .ct τ' S'=>kT t c n τ' S'
    | .bk τ' S'=>.nx τ' S'
    | r=>r)
   rw[e2];exact q
theorem BX{s:Src}{g:Tg}{c:Sm}(Inv:Nat->ad->jd->Prop)(Post:RS->Prop)
  (step:∀i τ S,i<s.k->Inv i τ S->∃x τ1 S1,s.get i S=some x/\g x τ S=.ok τ1 S1/\((∃τ' S',c τ1 S1=.nx τ' S'/\Inv (i+1) τ' S')\/(∃a S',c τ1 S1=.rt a S'/\Post (.rt a S'))))
  (fin:∀τ S,Inv s.k τ S->s.fin S=true/\Post (.nx τ S)):∀k i τ S,k+i=s.k->Inv i τ S->Post (oB s g c k i τ S)
 | 0,i,τ,S,hk,hi=>by
  have:i=s.k:=()
  subst this;obtain⟨hf,q⟩:=fin τ S hi;unfold oB;rw[aN hf];exact q
 | k+1,i,τ,S,hk,hi=>by
  obtain⟨x,τ1,S1,hx,hg,h⟩:=step i τ S () hi;unfold oB;rw[hx];show Post (RS.of (g x τ S) λτ1 S1=>match c τ1 S1 with
   | .nx τ' S'=>oB s g c k (i+1) τ' S'
   | .ct τ' S'=>oB s g c k (i+1) τ' S'
   | .bk τ' S'=>.nx τ' S'
   | r=>r)
  rw[hg];show Post (match c τ1 S1 with
   | .nx τ' S'=>oB s g c k (i+1) τ' S'
   | .ct τ' S'=>oB s g c k (i+1) τ' S'
   | .bk τ' S'=>.nx τ' S'
   | r=>r)
  rcases h with⟨τ',S',e,hi'⟩|⟨a,S',e,q⟩
  ·rw[e];exact BX Inv Post step fin k (i+1) τ' S' () hi'
  ·rw[e];exact q
def nL{lo hi:Int}{c:Sm}{src:Ic}{τ:ad}(hs:src τ S=.ok (ki lo hi) S1)(Inv:Nat->ad->jd->Prop)(Post:RS->Prop)(h0:Inv 0 τ S1)
  (step:∀(i:Nat) τ S,(i:Int)<hi-lo->Inv i τ S->(∃τ' S',c (τ.set j (.int (lo+i))) S=.nx τ' S'/\Inv (i+1) τ' S')\/(∃a S',c (τ.set j (.int (lo+i))) S=.rt a S'/\Post (.rt a S')))
  (fin:∀τ S,Inv (hi-lo).toNat τ S->Post (.nx τ S)):Post (nV src (jU j) c τ S):=by
 unfold nV;rw[hs];refine BX (s:=ki lo hi) Inv Post (λi τ S hi' h=>?_) (λτ S h=>⟨rfl,fin τ S h⟩) _ 0 τ S1 rfl h0;have hi':i<(hi-lo).toNat:=hi';exact⟨.int (lo+i),_,S,aN hi',rfl,step i τ S () h⟩
def EM{n:Nat}{xs:ad}{g:Tg}{c:Sm}{src:Ic}(hs:src τ S=.ok (l8 n xs.length) S1)(Inv:Nat->ad->jd->Prop)(Post:RS->Prop)(h0:Inv 0 τ S1)(hl:∀i τ S,Inv i τ S->i_ S n=some xs)
  (step:∀(i:Nat) x τ S,xs[i]?=some x->Inv i τ S->∃τ1 S1,g x τ S=.ok τ1 S1/\((∃τ' S',c τ1 S1=.nx τ' S'/\Inv (i+1) τ' S')\/(∃a S',c τ1 S1=.rt a S'/\Post (.rt a S'))))
  (fin:∀τ S,Inv xs.length τ S->Post (.nx τ S)):Post (nV src g c τ S):=by
 unfold nV;rw[hs];refine BX (s:=l8 n xs.length) Inv Post (λi τ S hi' h=>?_) (λτ S h=>⟨?_,fin τ S h⟩) _ 0 τ S1 rfl h0
 ·have hi':i<xs.length:=hi';obtain⟨τ1,S1,e,q⟩:=step i xs[i] τ S (aG hi') h;exact⟨xs[i],τ1,S1,by show(i_ S n).bind _=_;rw[hl i τ S h];exact aG hi',e,q⟩
 ·show(match i_ S n with
   | some ys=>decide (ys.length<=xs.length)
   | none=>false)=true
  rw[hl _ τ S h];exact bg (aP _)
@[simp]def nS {c:Ex}{τ:ad}{S S1:jd}{j:Int}(h:c τ S=.ok (.int j) S1)(hb:bnd j):pK c τ S=.ok (ki 0 j) S1:=by
 unfold pK;rw[h];exact kc hb
def pC{c d:Ex}{i j:Int}(h:c τ S=.ok (.int i) S1)(h':d τ S1=.ok (.int j) S2)(hb:bnd i)(hb':bnd j):ng c d τ S=.ok (ki i j) S2:=by
 unfold ng;rw[h];show(d τ S1).bind _=_;rw[h'];exact kc ⟨hb,hb'⟩
def Qf{c:Ex}(h:c τ S=.ok (.tup xs) S1):qi c τ S=.ok (mV xs) S1:=by unfold qi;rw[h];rfl
def ue{c:Ex}{n:Nat}{xs:ad}(h:c τ S=.ok (.ref n) S1)(hl:i_ S1 n=some xs):qi c τ S=.ok (l8 n xs.length) S1:=by
 unfold qi;rw[h];show opt (i_ S1 n) _=_;rw[hl];rfl
theorem pM{s:Src}{g:Tg}{t:Te}{e:Ex}{P:jd->Prop}{T:ad->Prop}(it:Nat->A)(p:Nat->Bool)(f:Nat->A)
  (hget:∀i S,i<s.k->P S->s.get i S=some (it i)) (hfin:∀S,P S->s.fin S=true)
  (step:∀i τ S,i<s.k->T τ->P S->∃τ1 S1 S2,g (it i) τ S=.ok τ1 S1/\t τ1 S1=.ok (p i) S2/\T τ1/\(p i=false->P S2)/\(p i=true->∃S3,e τ1 S2=.ok (f i) S3/\P S3)) :
  ∀k i τ S,k+i=s.k->T τ->P S->∃S',l5 s g t e k i τ S=.ok (((List.range' i k).filter p).map f) S'/\P S'
 | 0,i,τ,S,hk,hT,hP=>⟨S,by unfold l5;rw[aN (hfin S hP)];rfl,hP⟩
 | k+1,i,τ,S,hk,hT,hP=>by
  obtain⟨τ1,S1,S2,hg,ht,hT1,hF,hTr⟩:=step i τ S (by omega) hT hP;unfold l5;rw[hget i S (by omega) hP,jx,hg,R.ku,ht,R.ku,dH,gG]
  cases hp:p i with
  | false=>
   obtain⟨S',h1,h2⟩:=pM it p f hget hfin step k (i+1) τ1 S2 (by omega) hT1 (hF hp);exact⟨S',by simpa using h1,h2⟩
  | true=>
   obtain⟨S3,he,hP3⟩:=hTr hp;obtain⟨S',h1,h2⟩:=pM it p f hget hfin step k (i+1) τ1 S3 (by omega) hT1 hP3;refine⟨S',?_,h2⟩
   skip
   rw[he,R.ku,h1];rfl
def uB{s:Src}{src:Ic}{t:Te}{e:Ex}{S1:jd}(hs:src τ S=.ok s S1)(it:Nat->A)(p:Nat->Bool)(f:Nat->A)(hget:∀i,i<s.k->s.get i S1=some (it i))(hfin:s.fin S1=true)
  (ht:∀i,i<s.k->t (it i::nJ cap τ) S1=.ok (p i) S1) (he:∀i,i<s.k->p i=true->e (it i::nJ cap τ) S1=.ok (f i) S1) (hl:s.k<=16777216) :
  j8 (none::cap) src (jU 0) t e τ S=.ok (.ref S1.length) (S1++[.lst (((List.range s.k).filter p).map f)]):=by
 unfold j8;rw[hs,R.kP];obtain⟨S',h1,h2⟩:=pM (s:=s) (g:=jU 0) (t:=t) (e:=e) (P:=λS=>S=S1) (T:=λτ'=>∃y,τ'=y::nJ cap τ) it p f (λi S hi h=>by subst h;exact hget i hi) (λS h=>by subst h;exact hfin)
  (λi τ' S hi ⟨y,hy⟩ h=>by
   subst h hy;exact⟨it i::nJ cap τ,S,S,rfl,ht i hi,⟨_,rfl⟩,λ_=>rfl,λhp=>⟨S,he i hi hp,rfl⟩⟩) s.k 0 (nJ (none::cap) τ) S1 rfl ⟨_,rfl⟩ rfl
 subst h2;rw[h1,R.ku,cG];refine jQ ?_;rw[aK];refine bS (dg _ _) ?_;rw[List.length_range'];exact hl
def pB{α β:Type}(xs:List α)(p:α->Bool)(f:α->β):∀(d:α) ,(((List.range xs.length).filter λi=>p (xs.getD i d)).map λi=>f (xs.getD i d))=(xs.filter p).map f:=by
 intro d
 induction xs with
 | nil=>rfl
 | cons x xs ih=>
  rw[bI,List.range_succ_eq_map,gG,gG];have e:((List.filter (λi=>p ((x::xs).getD i d)) (List.map Nat.succ (List.range xs.length))).map λi=>f ((x::xs).getD i d))=(xs.filter p).map f:=by
   rw[gU,bV];rw[<- ih];rfl
  show List.map _ (if p x=true then _ else _)=List.map f (if p x=true then _ else _);by_cases hp:p x=true
  ·rw[aN hp,aN hp,bX,bX,e];rfl
  ·rw[aM hp,aM hp,e]
def G_{xs:ad}{src:Ic}{t:Te}{e:Ex}{S1:jd}(hs:src τ S=.ok (mV xs) S1)(p:A->Bool)(f:A->A)
  (ht:∀x∈xs,t (x::nJ cap τ) S1=.ok (p x) S1) (he:∀x∈xs,p x=true->e (x::nJ cap τ) S1=.ok (f x) S1) (hl:xs.length<=16777216) :
  j8 (none::cap) src (jU 0) t e τ S=.ok (.ref S1.length) (S1++[.lst ((xs.filter p).map f)]):=by
 have hm:∀i,i<xs.length->xs.getD i .unb∈xs:=λi hi=>by
  rw[aI,aG hi];exact dJ hi
 rw[uB hs (λi=>xs.getD i .unb) (λi=>p (xs.getD i .unb)) (λi=>f (xs.getD i .unb)) (λi hi=>by
  have hi:i<xs.length:=hi;show xs[i]?=_;rw[aI,aG hi];rfl) rfl (λi hi=>ht _ (hm i hi)) (λi hi=>he _ (hm i hi)) hl]
 have:=pB xs p f .unb;show R.ok _ (S1++[O.lst (((List.range xs.length).filter _).map _)])=_;rw[this]
def G3{xs:ad}{src:Ic}{e:Ex}{S1:jd}(hs:src τ S=.ok (mV xs) S1)(f:A->A)
  (he:∀x∈xs,e (x::nJ cap τ) S1=.ok (f x) S1) (hl:xs.length<=16777216) :
  j8 (none::cap) src (jU 0) uS e τ S=.ok (.ref S1.length) (S1++[.lst (xs.map f)]):=by
 rw[G_ hs (λ_=>true) f (λ_ _=>rfl) (λx hx _=>he x hx) hl,List.filter_eq_self.mpr (λ_ _=>rfl)]
def GJ{lo hi:Int}{src:Ic}{t:Te}{e:Ex}{S1:jd}(hs:src τ S=.ok (ki lo hi) S1)(p:Int->Bool)(f:Int->A)
  (ht:∀k,lo<=k->k<hi->t (.int k::nJ cap τ) S1=.ok (p k) S1) (he:∀k,lo<=k->k<hi->p k=true->e (.int k::nJ cap τ) S1=.ok (f k) S1) (hl:(hi-lo).toNat<=16777216) :
  j8 (none::cap) src (jU 0) t e τ S=.ok (.ref S1.length) (S1++[.lst (((jw lo hi).filter p).map f)]):=by
 rw[uB hs (λi=>.int (lo+i)) (λi=>p (lo+i)) (λi=>f (lo+i)) (λi hi'=>aN hi') rfl (λi hi'=>ht _ () (by have:i<(hi-lo).toNat:=hi';lia)) (λi hi'=>he _ () (by have:i<(hi-lo).toNat:=hi';lia)) hl];unfold jw;rw[gU,bV];rfl
@[simp]def Hx {cap:List (bi)}{τ:ad}:nJ (none::cap) τ=.unb::nJ cap τ:=rfl
@[simp]def JP {cap:List (bi)}{τ:ad}{j:Nat}:nJ (some j::cap) τ=τ.getD j .unb::nJ cap τ:=rfl
@[simp]def A_ {τ:ad}:nJ [] τ=[]:=rfl
theorem I_{x:A}:mC (x::xs) 0=some x:=Bt (k:=0) rfl rfl
def Jr{x:A}:mC (x::y::xs) 1=some y:=Bt (k:=1) rfl rfl
def oA{ns:ae}{i:Int}{k:Nat}{x:Int}(h:i=k)(hx:ns[k]?=some x):mC (ns.map A.int) i=some (.int x):=Bt h (by rw[aT,hx];rfl)
def kj{j:Int}(h:-4611686018427387904<=j)(h':j<4611686018427387904):bnd j:=⟨(),()⟩
def wD{i j:Int}(h1:-1000000<=i)(h2:i<=1000000)(h3:-1000000<=j)(h4:j<=1000000)(h5:j-i<=1000):vW i j:=⟨⟨(),(),(),()⟩,()⟩
theorem ints_map:∀(ns:ae),A.ints (ns.map .int)=some ns
 | []=>rfl
 | n::ns=>by show(A.ints (ns.map .int)).map (n::·)=_;rw[ints_map ns];rfl
theorem tP{n:Nat}:∀(xs ys:ae),ug (xw S (n+1)) (xs.map .int) (ys.map .int)=some (decide (xs=ys))
 | [],[]=>rfl
 | [],_::_=>rfl
 | _::_,[]=>rfl
 | x::xs,y::ys=>by
  skip
  skip
  show Option.map _ (ug (xw S (n+1)) (xs.map .int) (ys.map .int))=_;rw[tP xs ys]
  skip
  by_cases h1:x=y<;>by_cases h2:xs=ys<;>simp[h1,h2]
@[simp]def MJ {S:jd}{x y:Bool}:qg false (.bl x) (.bl y) S=.ok (.bl (x == y)) S:=rfl
@[simp]def Ng {S:jd}{x y:Bool}:qg true (.bl x) (.bl y) S=.ok (.bl (!(x == y))) S:=rfl
@[simp]def NC {S:jd}{x y:Int}:qg false (.int x) (.int y) S=.ok (.bl (x == y)) S:=rfl
@[simp]def Nq {S:jd}{x y:Int}:qg true (.int x) (.int y) S=.ok (.bl (!(x == y))) S:=rfl
@[simp]def CP {S:jd}:zo false .non .non S=.ok (.bl true) S:=rfl
@[simp]def Cs {S:jd}{xs:ad}:zo false (.tup xs) .non S=.ok (.bl false) S:=rfl
@[simp]def CH {S:jd}{n:Nat}:zo false (.ref n) .non S=.ok (.bl false) S:=rfl
@[simp]def Ae {S:jd}:zo true .non .non S=.ok (.bl false) S:=rfl
@[simp]def A3 {S:jd}{xs:ad}:zo true (.tup xs) .non S=.ok (.bl true) S:=rfl
@[simp]def zR {S:jd}{n:Nat}:zo true (.ref n) .non S=.ok (.bl true) S:=rfl
@[simp]def EI {S:jd}{x:A}{c:String}:TH x (.ty c) S=opt (x.kd S) λk=>opt (QY k c) λb=>.ok (.bl b) S:=rfl
@[simp]def MC {S:jd}{b:Bool}:A.kd (.bl b) S=some .bl:=rfl
@[simp]def G5 {S:jd}{b:Int}:A.kd (.int b) S=some .int:=rfl
@[simp]def Ht {S:jd}{b:ad}:A.kd (.tup b) S=some .tup:=rfl
@[simp]def J9 {S:jd}:A.kd .non S=some .non:=rfl
@[simp]def GF {S:jd}{b:Str}:A.kd (.str b) S=some .str:=rfl
@[simp]def Jz {S:jd}{n:Nat}:A.kd (.ref n) S=(i_ S n).map λ_=>.lst:=rfl
@[simp]def HH {S:jd}:newL [] S=.ok (.ref S.length) (S++[.lst []]):=jQ (by simp)
@[simp]def Hi {S:jd}{x0:A}:newL [x0] S=.ok (.ref S.length) (S++[.lst [x0]]):=jQ (by simp)
@[simp]def IV {S:jd}{x0 x1:A}:newL [x0,x1] S=.ok (.ref S.length) (S++[.lst [x0,x1]]):=jQ (by simp)
@[simp]def Ku {S:jd}{x0 x1 x2:A}:newL [x0,x1,x2] S=.ok (.ref S.length) (S++[.lst [x0,x1,x2]]):=jQ (by simp)
@[simp]def JM {S:jd}{x0 x1 x2 x3:A}:newL [x0,x1,x2,x3] S=.ok (.ref S.length) (S++[.lst [x0,x1,x2,x3]]):=jQ (by simp)
@[simp]def J4 {S:jd}{x0 x1 x2 x3 x4:A}:newL [x0,x1,x2,x3,x4] S=.ok (.ref S.length) (S++[.lst [x0,x1,x2,x3,x4]]):=jQ (by simp)
@[simp]def Gk {S:jd}{x0 x1 x2 x3 x4 x5:A}:newL [x0,x1,x2,x3,x4,x5] S=.ok (.ref S.length) (S++[.lst [x0,x1,x2,x3,x4,x5]]):=jQ (by simp)
@[simp]def HQ {S:jd}{x0 x1 x2 x3 x4 x5 x6:A}:newL [x0,x1,x2,x3,x4,x5,x6] S=.ok (.ref S.length) (S++[.lst [x0,x1,x2,x3,x4,x5,x6]]):=jQ (by simp)
@[simp]def JW {S:jd}{x0 x1 x2 x3 x4 x5 x6 x7:A}:newL [x0,x1,x2,x3,x4,x5,x6,x7] S=.ok (.ref S.length) (S++[.lst [x0,x1,x2,x3,x4,x5,x6,x7]]):=jQ (by simp)
@[simp]def Iq {S:jd}{x0 x1 x2 x3 x4 x5 x6 x7 x8:A}:newL [x0,x1,x2,x3,x4,x5,x6,x7,x8] S=.ok (.ref S.length) (S++[.lst [x0,x1,x2,x3,x4,x5,x6,x7,x8]]):=jQ (by simp)
@[simp]def CW {S:jd}{x0 x1 x2 x3 x4 x5 x6 x7 x8 x9:A}:newL [x0,x1,x2,x3,x4,x5,x6,x7,x8,x9] S=.ok (.ref S.length) (S++[.lst [x0,x1,x2,x3,x4,x5,x6,x7,x8,x9]]):=jQ (by simp)
theorem vX{α:Type}{n:Nat}{r:R α}(h:n<=16777216):gd (n<=sizeLine) r=r:=kc (by rw[cV];exact h)
def Hr{α:Type}{n:Nat}{r:R α}(h:n<16777216):gd (n<sizeLine) r=r:=kc (by rw[cV];exact h)
def MY {x:A}{xs:ad}:(x::xs).getD 0 .unb=x:=rfl
def Nb {x:A}{xs:ad}{n:Nat}:(x::xs).getD (n+1) .unb=xs.getD n .unb:=rfl
def SO {x y:A}{xs:ad}:(x::xs).set 0 y=y::xs:=rfl
def sets {x y:A}{xs:ad}{n:Nat}:(x::xs).set (n+1) y=x::xs.set n y:=rfl
def rep0 {x:A}:List.replicate 0 x=[]:=rfl
def reps {x:A}{n:Nat}:List.replicate (n+1) x=x::List.replicate n x:=rfl
def Ru {x:A}{xs ys:ad}:(x::xs)++ys=x::(xs++ys):=rfl
def Sw {ys:ad}:[]++ys=ys:=rfl
def jD:type_of% (anI @R.kP (anI @R.DE (anI @R.ku (anI @RS.of_ok (anI @RS.MX (anI @jx (anI @Dm (anI @Eh (anI @EN (anI @CY (anI @Dj (anI @G9 (anI @C6 (anI @CU (anI @EL (anI @Cz (anI @E3 (anI @MT (anI @DM (anI @GH (anI @EA (anI @M_ (anI @JF (anI @Dh (anI @E2 (anI @KA (anI @EU (anI @D9 (anI @Ct (anI @JN (anI @Jw (anI @Dt (anI @GZ (anI @AU (anI @EH (anI @IQ (anI @EE (anI @z9 (anI @Dy (anI @CO (anI @Aq (anI @GX (anI @Kf (anI @MD (anI @Nt (anI @JY (anI @Bc (anI @De (anI @AA (anI @Gj (anI @DC (anI @lst?_ref (anI @RS.IC (anI @RS.Iu (anI @RS.IE (anI @RS.Im (anI @RS.GN (anI @CC (anI @Ef (anI @xV (anI @Aw (anI @Bd (anI @D8 (anI @AB (anI @JL (anI @CN (anI @Jj (anI @IW (anI @Jd (anI @IF (anI @Kx (anI @J6 (anI @Di (anI @CS (anI @AN (anI @RS.Hz (anI @RS.Jt (anI @RS.JI (anI @Iz (anI @Je (anI @G6 (anI @Nz (anI @Np (anI @M3 (anI @Nm (anI @Nf (anI @GS (anI @IX (anI @Kr (anI @KD (anI @JJ (anI @J3 (anI @D4 (anI @Ck (anI @Cu (anI @DY (anI @xK (anI @MI (anI @M8 (anI @Na (anI @Ka (anI @Jx (anI @CA (anI @DU (anI @DG (anI @Bg (anI @zY (anI @HN (anI @HG (anI @MV (anI @wG (anI @ID (anI @DA (anI @jq (anI @Hx (anI @JP (anI @A_ (anI @MJ (anI @Ng (anI @NC (anI @Nq (anI @CP (anI @Cs (anI @CH (anI @Ae (anI @A3 (anI @zR (anI @EI (anI @MC (anI @G5 (anI @Ht (anI @J9 (anI @GF (anI @Jz (anI @HH (anI @Hi (anI @IV (anI @Ku (anI @JM (anI @J4 (anI @Gk (anI @HQ (anI @JW (anI @Iq (anI @CW (anI @MY (anI @Nb (anI @SO (anI @sets (anI @rep0 (anI @reps (anI @Ru (anI @Sw (anI @sF (anI @DJ (anI @HU (anI @Ky (anI @Nr (anI @M6 (anI @Iw (anI @GW (anI @yj (anI @A8 (anI @JE (anI @Ey (anI @Jp (anI @C5 (anI @H_ (anI @MU (anI @Nh (anI @CK (anI @ES (anI @HY (anI @A4 (anI @Du (anI @HZ (anI @HR (anI @IY (anI @HP (@GO)))))))))))))))))))))))))))))))))))))))))))))))))))))))))))))))))))))))))))))))))))))))))))))))))))))))))))))))))))))))))))))))))))))))))))))))))))))))))))))))))))))))))))))))))))):=anI @R.kP (anI @R.DE (anI @R.ku (anI @RS.of_ok (anI @RS.MX (anI @jx (anI @Dm (anI @Eh (anI @EN (anI @CY (anI @Dj (anI @G9 (anI @C6 (anI @CU (anI @EL (anI @Cz (anI @E3 (anI @MT (anI @DM (anI @GH (anI @EA (anI @M_ (anI @JF (anI @Dh (anI @E2 (anI @KA (anI @EU (anI @D9 (anI @Ct (anI @JN (anI @Jw (anI @Dt (anI @GZ (anI @AU (anI @EH (anI @IQ (anI @EE (anI @z9 (anI @Dy (anI @CO (anI @Aq (anI @GX (anI @Kf (anI @MD (anI @Nt (anI @JY (anI @Bc (anI @De (anI @AA (anI @Gj (anI @DC (anI @lst?_ref (anI @RS.IC (anI @RS.Iu (anI @RS.IE (anI @RS.Im (anI @RS.GN (anI @CC (anI @Ef (anI @xV (anI @Aw (anI @Bd (anI @D8 (anI @AB (anI @JL (anI @CN (anI @Jj (anI @IW (anI @Jd (anI @IF (anI @Kx (anI @J6 (anI @Di (anI @CS (anI @AN (anI @RS.Hz (anI @RS.Jt (anI @RS.JI (anI @Iz (anI @Je (anI @G6 (anI @Nz (anI @Np (anI @M3 (anI @Nm (anI @Nf (anI @GS (anI @IX (anI @Kr (anI @KD (anI @JJ (anI @J3 (anI @D4 (anI @Ck (anI @Cu (anI @DY (anI @xK (anI @MI (anI @M8 (anI @Na (anI @Ka (anI @Jx (anI @CA (anI @DU (anI @DG (anI @Bg (anI @zY (anI @HN (anI @HG (anI @MV (anI @wG (anI @ID (anI @DA (anI @jq (anI @Hx (anI @JP (anI @A_ (anI @MJ (anI @Ng (anI @NC (anI @Nq (anI @CP (anI @Cs (anI @CH (anI @Ae (anI @A3 (anI @zR (anI @EI (anI @MC (anI @G5 (anI @Ht (anI @J9 (anI @GF (anI @Jz (anI @HH (anI @Hi (anI @IV (anI @Ku (anI @JM (anI @J4 (anI @Gk (anI @HQ (anI @JW (anI @Iq (anI @CW (anI @MY (anI @Nb (anI @SO (anI @sets (anI @rep0 (anI @reps (anI @Ru (anI @Sw (anI @sF (anI @DJ (anI @HU (anI @Ky (anI @Nr (anI @M6 (anI @Iw (anI @GW (anI @yj (anI @A8 (anI @JE (anI @Ey (anI @Jp (anI @C5 (anI @H_ (anI @MU (anI @Nh (anI @CK (anI @ES (anI @HY (anI @A4 (anI @Du (anI @HZ (anI @HR (anI @IY (anI @HP (@GO)))))))))))))))))))))))))))))))))))))))))))))))))))))))))))))))))))))))))))))))))))))))))))))))))))))))))))))))))))))))))))))))))))))))))))))))))))))))))))))))))))))))))))))))))))
def bools:(∀b:Bool,cond false b b=b)/\(∀(α:Type) (x y:α),cond false x y=y)/\(∀(α:Type) (x y:α),cond true x y=x):=⟨λ_=>rfl,λ_ _ _=>rfl,λ_ _ _=>rfl⟩
def nh:(∀(x:Str) (xs:am),(x::xs).length=xs.length+1)/\([]:am).length=0/\(∀(x:A) (xs:ad),(x::xs).length=xs.length+1)/\([]:ad).length=0:=⟨λ_ _=>rfl,rfl,λ_ _=>rfl,rfl⟩
section
variable {τ:ad}{S:jd}
def EK {f:ad->jd->R A}{d:pO}:Tt f d τ S=(d τ S).bind f:=rfl
abbrev Vs (c:Str):Unit->jd->RS:=λ_ S1=>.ex c S1
def HM {c:Str}{u:Unit}:Vs c u S=.ex c S:=rfl
def yh {c:Str}{ps:List (Str ⊕ Ex)}:OT c ps τ S=RS.of (L7 ps τ S) (Vs c):=rfl
def DH:L7 [] τ S=.ok Unit.unit S:=rfl
def EG {x:Str}{ps:List (Str ⊕ Ex)}:L7 (.inl x::ps) τ S=L7 ps τ S:=rfl
abbrev VF (ps:List (Str ⊕ Ex))(τ:ad):A->jd->R Unit:=λv S1=>match v with
 | .int i=>gd (i.natAbs.log2<64) (L7 ps τ S1)
 | _=>.no
def Eg {e:Ex}{ps:List (Str ⊕ Ex)}:L7 (.inr e::ps) τ S=(e τ S).bind (VF ps τ):=rfl
abbrev RS.try (i n:Nat)(cs:am)(d:Sm):RS->RS
 | .ex x S1=>if x∈cs then ML i (d ((List.replicate n .unb).set i (.exn x)) S1)else .no
 | r=>r
def CJ {i n:Nat}{cs:am}{c d:Sm}:QU i n cs c d τ S=RS.try i n cs d (c τ S):=by
 unfold QU RS.try;cases c τ S<;>rfl
def JG {i n:Nat}{cs:am}{d:Sm}:RS.try i n cs d (.nx τ S)=.nx τ S:=rfl
def JS {i n:Nat}{cs:am}{d:Sm}{a:A}:RS.try i n cs d (.rt a S)=.rt a S:=rfl
def Ho {i n:Nat}{x:Str}{cs:am}{d:Sm}:RS.try i n (x::cs) d (.ex x S)=ML i (d ((List.replicate n .unb).set i (.exn x)) S):=aN (.head _)
def Ih {i:Nat}{a:A}:ML i (.rt a S)=.rt a S:=rfl
def J8 {i:Nat}:ML i (.nx τ S)=.nx (τ.set i .unb) S:=rfl
abbrev RO (f:Str->bd):A->jd->R A:=λv S1=>match v with
 | .exn x=>opt (f x) λb=>.ok (.bl b) S1
 | _=>.no
def Cm {f:Str->bd}{c:Ex}:T9 f c τ S=(c τ S).bind (RO f):=rfl
def G7 {x:Str}{b:Bool}{tb:List (Str×Bool)}:RO (V9 ((x,b)::tb)) (.exn x) S=.ok (.bl b) S:=by
 show opt (List.lookup x ((x,b)::tb)) _=_;rw[fD,bN];rfl
abbrev R.Gp {α β:Type}(r:R α)(f:α->jd->R β):R β:=match r with
 | .ok a S=>f a S
 | _=>.no
def Ag {α β:Type}{a:α}{f:α->jd->R β}:R.Gp (.ok a S) f=f a S:=rfl
def CD {f:ad->jd->R A}{d:pO}:RX f d τ S=R.Gp (d τ S) f:=by unfold RX R.Gp;cases d τ S<;>rfl
abbrev RS.Tv {α:Type}(r:R α)(f:α->jd->RS):RS:=match r with
 | .ok a S=>f a S
 | _=>.no
def HV {α:Type}{a:α}{f:α->jd->RS}:RS.Tv (.ok a S) f=f a S:=rfl
def DO {t:Te}{c d:Sm}:RK t c d τ S=RS.Tv (t τ S) (Tj c d τ):=by
 unfold RK RS.Tv
 cases t τ S with
 | ok b S1=>cases b<;>rfl
 | ex _ _=>rfl
 | no=>rfl
abbrev RS.Ir (i:Nat)(cs:am)(d:Sm)(τ:ad):RS->RS
 | .ex x S1=>if x∈cs then ML i (d (τ.set i (.exn x)) S1)else .no
 | r=>r
def Ba {i:Nat}{cs:am}{c d:Sm}:ME i cs c d τ S=RS.Ir i cs d τ (c τ S):=by
 unfold ME RS.Ir;cases c τ S<;>rfl
def D3 {i:Nat}{cs:am}{d:Sm}{τ':ad}:RS.Ir i cs d τ (.nx τ' S)=.nx τ' S:=rfl
def D7 {i:Nat}{cs:am}{d:Sm}{a:A}:RS.Ir i cs d τ (.rt a S)=.rt a S:=rfl
def C8 {i:Nat}{x:Str}{cs:am}{d:Sm}:RS.Ir i (x::cs) d τ (.ex x S)=ML i (d (τ.set i (.exn x)) S):=aN (.head _)
def zZ:A.FQ []=some []:=rfl
def uD {b:Bool}{xs:ad}:A.FQ (.bl b::xs)=(A.FQ xs).map (b::·):=rfl
end
def zK:type_of% (anI @EK (anI @yh (anI @HM (anI @DH (anI @EG (anI @Eg (anI @CJ (anI @JG (anI @JS (anI @Ho (anI @Ih (anI @J8 (anI @Cm (anI @G7 (anI @zZ (anI @uD (anI @Ag (anI @CD (anI @HV (anI @DO (anI @Ba (anI @D3 (anI @D7 (anI @C8 (trivial))))))))))))))))))))))))):=anI @EK (anI @yh (anI @HM (anI @DH (anI @EG (anI @Eg (anI @CJ (anI @JG (anI @JS (anI @Ho (anI @Ih (anI @J8 (anI @Cm (anI @G7 (anI @zZ (anI @uD (anI @Ag (anI @CD (anI @HV (anI @DO (anI @Ba (anI @D3 (anI @D7 (anI @C8 (trivial))))))))))))))))))))))))
end Am
namespace L2
open PySem PySem.Spec PyProof.Rows
def Pe:bootBuiltins "set" = some (.type "set"):=by decide +kernel
theorem Ay:∀{ns:ae}{its:ap},Vals (ns.map V.int) its->IntsAre its ns
 | [],_,.nil=>.nil
 | n::ns,_::its,.cons r rs=>by
  obtain⟨t,rfl⟩:=r;exact .cons n t (Ay rs)
def JX(ns:ae):firstMet (λi=>ns.getD i 0) ns.length=ns.foldl step_dedup []:=by
 unfold firstMet;congr 1;refine List.ext_getElem (by simp) λi h1 h2=>?_;simp[aG h2]
section
variable {X:Cx}
def FY(hc:X.calm=true):jE X (.type "set") (λxs H Q=>∃(p:ak) (ns:ae),xs=[.ref p]/\mw X.K H p (ns.map V.int)/\ns.length<4000/\∀r S,H r=none->Q (.ref r) (upd H r (.set S (ns.foldl step_dedup []).length))):=by
 k_ne;obtain⟨p,ns,rfl,hs,hl,q⟩:=h;gp_on
 cases rx
 obtain⟨its,rv,pl,hsz⟩:=I.list hs;have ln:its.toArray.size=ns.length:=by
  have:=rv.length;rw[aK]at this;rw[aQ,this]
 refine call_set_list (I.ok.hd hc) pl.isList (Ay (its:=its.toArray.toList) (by simpa using rv)) (by rw[ln];unfold scanBound;lia) λh' tk so hk=>?_;rw[ln,JX]at so;exact⟨.ref s.heap.objs.size,_,I.laid (o:=.set _ _) (t':=tk) (λb o e=>hk b o (bf e) e) (aP _) so,rfl,q _ _ I.fresh⟩
def Fp:jE X (.builtin "len") (λxs H Q=>∃(r:ak) (S:Int->Bool) (n:Nat),xs=[.ref r]/\H r=some (.set S n)/\Q (.int n) H):=by
 k_ne;obtain⟨a,S,n,rfl,ha,q⟩:=h;gp_on
 cases rx
 obtain⟨o,es,ep,t,ho,hex,hd,_,_,hb,hf,hn⟩:=(show kD _ _ H s.heap a (.set S n)from I.hok a _ ha);refine call_len_set ho hex hd hf (by unfold scanBound at hb;lia) ⟨.int n,H,I.tok _,?_,q⟩;exact⟨_,by rw[hn]⟩
end
end L2
namespace Am
open PySem PySem.Spec PyProof.Rows L2
section
@[irreducible] noncomputable def big:Nat:=2 ^ 4096
end
abbrev kA (p:Int×Int):A:=.ktu [.int p.1,.int p.2]
section
variable {X:Cx}
abbrev QZ (a:A)(S:jd):R A:=match a with
 | .ref n=>opt (i_ S n) λxs=>opt (A.ints xs) λns=>gd (ns.length<4000) (.ok (.int (ns.foldl step_dedup []).length) S)
 | _=>.no
abbrev FU (c:Ex):Ex:=λτ S=>(c τ S).bind λa S1=>QZ a S1
def Fl{x:Str}{p:Pos}{e:aE}{c:Ex}(hc:X.calm=true)(hm:X.mg x=none)(hv:bootBuiltins x=some (.builtin "len"))(hm':X.mg y=none)(hv':bootBuiltins y=some (.type "set"))(ha:AE X e c)
  (hg:Gl X x:=by rfl) (hn:x ≠ "__name__" := by decide) (hdb:(x == ("__debug__" : Str))=false:=by decide) (hg':Gl X y:=by rfl) (hn':y ≠ "__name__" := by decide) (hdb':(y == ("__debug__" : Str))=false:=by decide)
  (he':starEach [e] X.env=(false,eval e X.env)::starEach [] X.env:=by rfl) (hpl':(backTo cpos (starEach [] X.env)).any (·.1)=false:=by rfl)
  (he:starEach [.Call (.Name y p') [e] [] cpos] X.env=(false,eval (.Call (.Name y p') [e] [] cpos) X.env)::starEach [] X.env:=by rfl) (hpl:(backTo pos (starEach [] X.env)).any (·.1)=false:=by rfl) :
  AE X (.Call (.Name x p) [.Call (.Name y p') [e] [] cpos] [] pos) (FU c):=
 PE.imp (AR Fp hg hm hv (qP (xN (FY hc) hg' hm' hv' (qP ha vM he') hn' hdb' he' hpl') vM he) hn hdb he hpl) λσ H Q h9=>by
  room;refine⟨ρ,S,τ,R,r,jb (jh h) .refl λa S1 h1 ρ1 H1 v e1 R1 v1=>?_⟩
  cases v1 with
  | ref hp=>
   rename_i p' n;obtain⟨xs,hn,h1⟩:=je h1;obtain⟨ns,hi,h1⟩:=je h1;obtain⟨hl,h1⟩:=jv h1;obtain⟨vs,g1,av⟩:=R1.lst hp (jn hn);have ev:=pQ av hi;subst ev;refine⟨p',ns,rfl,mw.of g1,hl,λr' S' hr=>?_⟩;obtain⟨ex,R2⟩:=R1.im (u:=.set S' (ns.foldl step_dedup []).length) hr;exact⟨r',S',_,rfl,jJ,h1 _ _ _ (e1.trans ex) R2 (.int _)⟩
  | _=>exact h1.elim
end
abbrev Df (K:au)(x:Str)(st:aF):Prop:=∃(f:ak) (fd:FuncData),PySem.W.nsIn K mainGlobals x=some (some (.ref f))/\Fun K x x st f fd
inductive En (P:aj) (w:ah) (K:au) (mg:Str->ba) (base:aq):Prop
 | mk (h:aq) (X:K.In h) (G:h.Ns mainGlobals mg)
section
variable {P:aj}{w:ah}{K:au}{mg:Str->ba}{base:aq}{x:Str}{st:aF}{ps:am}{k:Nat}{F:ad->jd->R A}
def En.at(E:En P w K mg base){f:ak}(h:PySem.W.nsIn K mainGlobals x=some (some (.ref f))):mg x=some (.ref f):=by
 obtain⟨_,X,G⟩:=E;exact fQ X G h
def Df.of{f:ak}{kV pm ct:af}(a:PySem.W.nsIn K mainGlobals x=some (some (.ref f)))(l:K.lookup f=some ⟨oc,od,.func (PySem.W.fnOf x x (qN st) (oE st) (jo st) .none kV doc pm an cdv ct),osl⟩)(c:PySem.W.codeIn K cdv x=true)(k:PySem.W.keepIn K (.ref f)=true):Df K x st:=⟨f,_,a,P4 l c k⟩
meta abbrev Bi (x:Str)(st:aF)(ps:am):Prop:=∀us:ap,us.length=ps.length->∀(kV doc pm:af) (an:Option ak) (cdv ct:af),bindArgs (PySem.W.fnOf x x (qN st) (oE st) (jo st) .none kV doc pm an cdv ct) ⟨us,[]⟩=pure (ps.zip us)
def Df.get(d:Df K x st)(E:En P w K mg base)(b:Bi x st ps):∃f fd,Fun K x x st f fd/\mg x=some (.ref f)/\PySem.W.keepIn K (.ref f)=true/\Binds K fd ps []:=by
 obtain⟨f,fd,a,F⟩:=d;exact⟨f,fd,F,E.at a,F.kp,F.binds λkV doc pm an cdv ct us hl=>b us hl kV doc pm an cdv ct⟩
def Df.kA(d:Df K x st)(E:En P w K mg base)(h:∀{f fd},Fun K x x st f fd->FnOk P w K mg base qk k f fd ps (rf K ps.length F))(b:Bi x st ps):ql P w K mg base k x ps F:=by
 obtain⟨f,fd,a,c,e,g⟩:=d.get E b;exact⟨f,fd,h a,c,e,g⟩
end
section
variable {X:Cx}{pos p:Pos}{e1 e2 e3:aE}{x p1 p2 p3:Str}{k K0:Nat}{F:ad->jd->R A}{c1 c2 c3:Ex}
def Bk(G:ql X.prog X.w X.K X.mg X.base k x [p1] F)(hr:Room K0 X.A)(h1:AE X e1 c1)(hk:k<=K0:=by decide)(hg:Gl X x:=by rfl)(hdb:(x == ("__debug__" : Str))=false:=by decide)(s1:starEach [e1] X.env=(false,eval e1 X.env)::starEach [] X.env:=by rfl)(hp:(backTo pos (starEach [] X.env)).any (·.1)=false:=by rfl):AE X (.Call (.Name x p) [e1] [] pos) (eFn F (i8 c1 jj)):=CG G (hr.mono hk) (i9 h1 jk s1) (kF uZ) hg hdb s1 hp
def zG(G:ql X.prog X.w X.K X.mg X.base k x [p1,p2] F)(hr:Room K0 X.A)(h1:AE X e1 c1)(h2:AE X e2 c2)(hk:k<=K0:=by decide)(hg:Gl X x:=by rfl)(hdb:(x == ("__debug__" : Str))=false:=by decide)(s1:starEach [e1,e2] X.env=(false,eval e1 X.env)::starEach [e2] X.env:=by rfl)(s2:starEach [e2] X.env=(false,eval e2 X.env)::starEach [] X.env:=by rfl)(hp:(backTo pos (starEach [e2] X.env)).any (·.1)=false:=by rfl):AE X (.Call (.Name x p) [e1,e2] [] pos) (eFn F (i8 c1 (i8 c2 jj))):=CG G (hr.mono hk) (i9 h1 (i9 h2 jk s2) s1) (kF (kF uZ)) hg hdb s1 hp
def Tu(G:ql X.prog X.w X.K X.mg X.base k x [p1,p2,p3] F)(hr:Room K0 X.A)(h1:AE X e1 c1)(h2:AE X e2 c2)(h3:AE X e3 c3)(hk:k<=K0:=by decide)(hg:Gl X x:=by rfl)(hdb:(x == ("__debug__" : Str))=false:=by decide)(s1:starEach [e1,e2,e3] X.env=(false,eval e1 X.env)::starEach [e2,e3] X.env:=by rfl)(s2:starEach [e2,e3] X.env=(false,eval e2 X.env)::starEach [e3] X.env:=by rfl)(s3:starEach [e3] X.env=(false,eval e3 X.env)::starEach [] X.env:=by rfl)(hp:(backTo pos (starEach [e2,e3] X.env)).any (·.1)=false:=by rfl):AE X (.Call (.Name x p) [e1,e2,e3] [] pos) (eFn F (i8 c1 (i8 c2 (i8 c3 jj)))):=CG G (hr.mono hk) (i9 h1 (i9 h2 (i9 h3 jk s3) s2) s1) (kF (kF (kF uZ))) hg hdb s1 hp
def uO{N P:am}{sc:Scope}(a:sc.kind=.function)(b:sc.isCoroutine=false)(c:sc.isGenerator=false)(h:N.Nodup/\N.take P.length=P/\(∀x∈P,sc.names.lookup x=some .local\/sc.names.lookup x=some .cell)/\∀y∈sc.names,y.2≠.free):FnScope N P sc:=⟨a,b,c,h.1,h.2.1,h.2.2.1,h.2.2.2⟩
end
end Am
namespace Bl
open L2
abbrev cnt:ae->Int->Int
 | [],_=>0
 | x::l,j=>(if j<=x then 1 else 0)+cnt l j
abbrev Below (xs ys:ae):Prop:=∀(i:Nat) (j:Int),cnt (xs.take i) j<=cnt (ys.take i) j
def Below.refl(xs:ae):Below xs xs:=λ_ _=>fm _
def Below.trans{a c:ae}(h:Below a b)(k:Below b c):Below a c:=λi j=>Int.le_trans (h i j) (k i j)
def cnt_append(a b:ae)(j:Int):cnt (a++b) j=cnt a j+cnt b j:=by
 induction a with
 | nil=>simp[cnt]
 | cons x a ih=>rw[List.cons_append,cnt,cnt,ih];lia
def vD{a:ae}(p:a.Perm b)(j:Int):cnt a j=cnt b j:=by
 induction p with
 | nil=>rfl
 | cons x _ ih=>rw[cnt,cnt,ih]
 | swap x y l=>rw[cnt,cnt,cnt,cnt];lia
 | trans _ _ h1 h2=>exact h1.trans h2
def take_snoc{l:ae}{i:Nat}(h:i<l.length):l.take (i+1)=l.take i++[l[i]]:=by
 rw[iX,aG h];rfl
def j6{l:ae}{i:Nat}(h:i<l.length)(j:Int):cnt (l.take (i+1)) j=cnt (l.take i) j+(if j<=l[i]then 1 else 0):=by
 rw[take_snoc h,cnt_append,cnt,cnt];lia
def uX{l:ae}{p:Nat}(h:p<l.length)(v:Int)(i:Nat)(j:Int) :
  cnt ((l.set p v).take i) j=cnt (l.take i) j+(if p<i then(if j<=v then 1 else 0)-(if j<=l[p]then 1 else 0)else 0):=by
 induction l generalizing p i with
 | nil=>cases h
 | cons x l ih=>
  cases i with
  | zero=>simp[cnt]
  | succ i=>
   cases p with
   | zero=>
    show(if j<=v then 1 else 0)+cnt (l.take i) j=(if j<=x then 1 else 0)+cnt (l.take i) j+_;rw[aN (succ_pos _)];show _=(if j<=x then 1 else 0)+cnt (l.take i) j+((if j<=v then 1 else 0)-(if j<=x then 1 else 0))
    lia
   | succ p=>
    show(if j<=x then 1 else 0)+cnt ((l.set p v).take i) j=(if j<=x then 1 else 0)+cnt (l.take i) j+_;have hp:p<l.length:=gq h;rw[ih hp];by_cases z:p<i
    ·rw[aN z,aN (Nat.succ_lt_succ z)];show _=(if j<=x then 1 else 0)+cnt (l.take i) j+((if j<=v then 1 else 0)-(if j<=l[p]then 1 else 0))
     lia
    ·rw[aM z,aM (λy=>z (gq y))]
     lia
def uG{l:ae}{p q:Nat}(hp:p<l.length)(hq:q<l.length)(hpq:p<q)(h:l[p]<l[q]):Below l ((l.set p l[q]).set q l[p]):=by
 intro i j;have hq':q<(l.set p l[q]).length:=by rw[bG];exact hq
 rw[uX hq',uX hp];have e:(l.set p l[q])[q]=l[q]:=by rw[List.getElem_set_ne (bE hpq)]
 rw[e]
 (repeat' split)<;>lia
abbrev uy (a b:ae):Prop:=a.length=b.length/\∀(p:Nat) (h:p<a.length),b[(a[p]-1).toNat]?=some ((p:Int)+1)
def x_{x y:ae}{n:Nat}(px:x.Perm (jw 1 (n+1)))(py:y.Perm (jw 1 (n+1))):(∀(i q:Nat),i<n->q<n->cnt (x.take (i+1)) ((q:Int)+1)<=cnt (y.take (i+1)) ((q:Int)+1)) ↔ Below x y:=by
 have lx:x.length=n:=by rw[px.length_eq,kr];lia
 have ly:y.length=n:=by rw[py.length_eq,kr];lia
 constructor
 ·intro h i j;have rx:∀z∈x,1<=z/\z<(n:Int)+1:=λz hz=>lg.mp (px.mem_iff.mp hz);have ry:∀z∈y,1<=z/\z<(n:Int)+1:=λz hz=>lg.mp (py.mem_iff.mp hz);have low:∀(l:ae),(∀z∈l,j<=z)->cnt l j=l.length:=λl=>by
   induction l with
   | nil=>intro _;rfl
   | cons z l ih=>intro hh;rw[cnt,aN (hh z aW),ih λy hy=>hh y (aV _ hy),bI];lia
  have high:∀(l:ae),(∀z∈l,z<j)->cnt l j=0:=λl=>by
   induction l with
   | nil=>intro _;rfl
   | cons z l ih=>intro hh;rw[cnt,aM (by have:=hh z aW;lia),ih λy hy=>hh y (aV _ hy)];rfl
  by_cases z1:j<=1
  ·rw[low _ λz hz=>by have:=(rx z (bK hz)).1;lia,low _ λz hz=>by have:=(ry z (bK hz)).1;lia,bw,bw,lx,ly];exact fm _
  ·by_cases z2:(n:Int)+1<=j
   ·rw[high _ λz hz=>by have:=(rx z (bK hz)).2;lia,high _ λz hz=>by have:=(ry z (bK hz)).2;lia];exact fm _
   ·obtain⟨q,rfl⟩:∃q:Nat,j=(q:Int)+1:=⟨(j-1).toNat,()⟩;by_cases hi:i<=n
    ·cases i with
     | zero=>simp[cnt]
     | succ i=>exact h i q () ()
    ·rw[cQ (),cQ (),vD px,vD py];exact fm _
 ·exact λh i q _ _=>h (i+1) ((q:Int)+1)
end Bl
namespace Am
open PySem L2 Bl
abbrev kY:Nat->Int->ae->ae
 | 0,_,ms=>ms
 | _+1,_,[]=>[]
 | x+1,d,m::ms=>(m+d)::kY x d ms
theorem uC:∀(x:Nat) (d:Int) (ms:ae),(kY x d ms).length=ms.length
 | 0,_,_=>rfl
 | _+1,_,[]=>rfl
 | x+1,d,m::ms=>dM (·+1) (uC x d ms)
theorem qX:∀(x:Nat) (d:Int) (ms:ae) (j:Nat),(kY x d ms)[j]?=(ms[j]?).map λm=>if j<x then m+d else m
 | 0,d,ms,j=>by simp[kY]
 | _+1,_,[],j=>by simp[kY]
 | x+1,d,m::ms,0=>by simp[kY]
 | x+1,d,m::ms,j+1=>by
  show(kY x d ms)[j]?=_;rw[qX x d ms j];simp
theorem wV:∀(x:Nat) (d:Int) (ms:ae) (m:Int),ms[x]?=some m->(kY x d ms).set x (m+d)=kY (x+1) d ms
 | 0,d,[],m,h=>by simp at h
 | 0,d,k::ms,m,h=>by simp at h;subst h;rfl
 | x+1,d,[],m,h=>by simp at h
 | x+1,d,k::ms,m,h=>by
  show(k+d)::(kY x d ms).set x (m+d)=(k+d)::kY (x+1) d ms;rw[wV x d ms m (by simpa using h)]
abbrev pG (n:Nat)(xs ys:ae)(t:Nat):ae:=(List.range n).map λ(j:Nat)=>cnt (xs.take t) ((j:Int)+1)-cnt (ys.take t) ((j:Int)+1)
def mH{n:Nat}{t:Nat}:(pG n xs ys t).length=n:=by simp[pG]
def pD{n:Nat}{xs ys:ae}{t j:Nat}(h:j<n):(pG n xs ys t)[j]?=some (cnt (xs.take t) ((j:Int)+1)-cnt (ys.take t) ((j:Int)+1)):=by
 unfold pG;rw[aT,bR h];rfl
def K7{n:Nat}:pG n xs ys 0=List.replicate n 0:=by
 unfold pG;refine b_ λj=>?_;rw[aT,f6];by_cases hj:j<n
 ·rw[bR hj,aN hj];simp[cnt]
 ·rw[bC (by simpa using hj),aM hj];rfl
def Bu{n:Nat}{xs ys:ae}{t:Nat}(hx:t<xs.length)(hy:t<ys.length):kY ys[t].toNat (-1) (kY xs[t].toNat 1 (pG n xs ys t))=pG n xs ys (t+1):=by
 refine b_ λj=>?_;rw[qX,qX];by_cases hj:j<n
 ·rw[pD hj,pD hj,j6 hx,j6 hy,gW,gW];congr 1;have e1:(j<xs[t].toNat)=((j:Int)+1<=xs[t]):=by apply propext;lia
  have e2:(j<ys[t].toNat)=((j:Int)+1<=ys[t]):=by apply propext;lia
  dsimp[e1,e2];split<;>split<;>lia
 ·rw[bC (by rw[mH];lia),bC (by rw[mH];lia)];rfl
theorem vV:∀{ns:ae},ns≠[]->∃m,maxOf ns=some m
 | [],h=>absurd rfl h
 | [x],_=>⟨x,rfl⟩
 | x::y::ys,_=>by
  obtain⟨m,e⟩:=vV (ns:=y::ys) (by simp);exact⟨if m>x then m else x,by show(maxOf (y::ys)).map _=_;rw[e];rfl⟩
def Jb{n:Nat}{ns:ae}(h:i_ S n=some (ns.map .int))(h0:ns≠[]):∃m,GV (.ref n) S=.ok (.int m) S/\m∈ns/\∀a∈ns,a<=m:=by
 obtain⟨m,e⟩:=vV h0;refine⟨m,?_,wZ e⟩;show opt (i_ S n) _=_;rw[h,jx,ints_map,jx,e,jx]
def MH{S:jd}{n:Nat}{x:A}{k:Nat}(h:i_ S n=some [x])(hk:k<=16777216):sE (.ref n) (.int k) S=.ok (.ref S.length) (S++[.lst (List.replicate k x)]):=by
 show opt (i_ S n) _=_;rw[h,jx];have e:(List.replicate k [x]).flatten=List.replicate k x:=by
  induction k with
  | zero=>rfl
  | succ k ih=>rw[cU,dj,ih ()];rfl
 rw[kc ⟨(),(),by rw[cV,b9];simpa using hk⟩,b9,e]
def AY{xs:ae}{n:Int}(h:xs.Perm (jw 1 (n+1)))(hn:0<=n):(xs.length:Int)=n:=by
 rw[h.length_eq,kr];lia
def Au{xs:ae}{n x:Int}(h:xs.Perm (jw 1 (n+1)))(hx:x∈xs):1<=x/\x<=n:=by
 have:=lg.mp (h.mem_iff.mp hx)
 lia
end Am
namespace Fo
open PySem L2
abbrev P (a b c d:Int):Prop:=(c<d/\d<a/\a<b)\/(d<b/\b<c/\c<a)
def qW{xs:ae}{i:Nat}{a:Int}(h:xs[i]?=some a):i<xs.length:=(aJ.mp h).1
structure Back (xs ys:ae):Prop where
 iff:∀p q:Nat,xs[p]?=some ((q:Int)+1) ↔ ys[q]?=some ((p:Int)+1)
 left:∀(p:Nat) x,xs[p]?=some x->∃q:Nat,x=(q:Int)+1
 right:∀(p:Nat) x,ys[p]?=some x->∃q:Nat,x=(q:Int)+1
def lX{lo hi:Int}{i:Nat}(h:(i:Int)<hi-lo):(jw lo hi)[i]?=some (lo+i):=by
 unfold jw;rw[aT,bR ()];rfl
end Fo
namespace Tb
abbrev fg (r:ae)(x:Int):Nat:=r.findIdx λy=>decide (x<y)
abbrev put:List (ae)->Int->List (ae)
 | [],x=>[[x]]
 | r::rs,x=>if fg r x=r.length then(r++[x])::rs else r.set (fg r x) x::put rs (r.getD (fg r x) 0)
abbrev row:List (ae)->Int->Nat
 | [],_=>0
 | r::rs,x=>if fg r x=r.length then 0 else row rs (r.getD (fg r x) 0)+1
abbrev add:List (ae)->Nat->Int->List (ae)
 | [],_,k=>[[k]]
 | q::qs,0,k=>(q++[k])::qs
 | q::qs,i+1,k=>q::add qs i k
abbrev gs (r:ae)(x:Int):ag:=(List.range r.length).filter λk=>decide (x<r.getD k 0)
end Tb
namespace Am
open PySem L2
abbrev Rows (S:jd):ag->List (ae)->Prop
 | [],[]=>True
 | r::rs,x::T=>i_ S r=some (x.map .int)/\Rows S rs T
 | _,_=>False
structure Tab (S:jd)(n:Nat)(rs:ag)(T:List (ae)):Prop where
 top:i_ S n=some (rs.map .ref)
 rows:Rows S rs T
 nd:(n::rs).Nodup
def eq_nil{a:Nat}{xs:ad}(h:i_ S a=some xs)(h':i_ S b=some []):xw S 12 (.ref a) (.ref b)=some xs.isEmpty:=by
 show(i_ S a).bind (λxs=>(i_ S b).bind λys=>ug (xw S 11) xs ys)=_;rw[h,cC,h',cC]
 cases xs<;>rfl
def RL{a:Nat}{xs ys:ae}(h:i_ S a=some (xs.map .int))(h':i_ S b=some (ys.map .int)):xw S 12 (.ref a) (.ref b)=some (decide (xs=ys)):=by
 show(i_ S a).bind (λxs=>(i_ S b).bind λys=>ug (xw S 11) xs ys)=_;rw[h,cC,h',cC];exact tP xs ys
def yY{a:A}{k:Bool}(h:xw S 12 a b=some k):qg true a b S=.ok (.bl (!k)) S:=by unfold qg;rw[h];rfl
def getD_at{r:ae}{k:Nat}(h:k<r.length):r[k]?=some (r.getD k 0):=by rw[aI,aG h];rfl
end Am
namespace Wd
open Bl L2
abbrev ex (l:ae)(k:Nat):ae:=(l.set (k-1) (l.getD k 0)).set k (l.getD (k-1) 0)
abbrev led (l:ae)(w:ag):ae:=w.foldl ex l
def jK{l:ae}{k:Nat}(h:k<l.length):l.getD k 0=l[k]:=by rw[aI,aG h];rfl
def xM{l:ae}{k:Nat}(h0:1<=k)(h:k<l.length):ex l k=(l.set (k-1) l[k]).set k (l[k-1]'()):=by
 unfold ex;rw[jK h,jK (show k-1<l.length by lia)]
def mW(l:ae)(k:Nat):(ex l k).length=l.length:=by unfold ex;rw[bG,bG]
theorem EJ:∀(w:ag) (l:ae),(led l w).length=l.length
 | [],_=>rfl
 | k::w,l=>by show(led (ex l k) w).length=_;rw[EJ w,mW]
def vm{l:ae}{k:Nat}(h0:1<=k)(h:k<l.length):(ex l k).Perm l:=by
 rw[xM h0 h];exact List.set_set_perm () h
theorem Kc:∀{w:ag}{l:ae},(∀k∈w,1<=k/\k<l.length)->(led l w).Perm l
 | [],_,_=>cZ _
 | k::w,l,h=>by
  have hk:=h k (aW ..);show(led (ex l k) w).Perm l;exact(Kc λm hm=>by rw[mW];exact h m (aV _ hm)).trans (vm hk.1 hk.2)
def EF(a b:ag)(l:ae):led l (a++b)=led (led l a) b:=List.foldl_append
def tN{l:ae}{k:Nat}(h0:1<=k)(h:k<l.length)(i:Nat)(j:Int) :
  cnt ((ex l k).take i) j=cnt (l.take i) j+(if i=k then(if j<=l[k]then 1 else 0)-(if j<=l[k-1]'()then 1 else 0)else 0):=by
 rw[xM h0 h];have hq':k<(l.set (k-1) l[k]).length:=by rw[bG];exact h
 rw[uX hq',uX (show k-1<l.length by lia)];have e:(l.set (k-1) l[k])[k]=l[k]:=by rw[List.getElem_set_ne ()]
 rw[e];by_cases h1:i=k
 ·rw[aN h1,aN (show k-1<i by lia),aM (show ¬k<i by lia)];lia
 ·by_cases h2:k<i
  ·rw[aM h1,aN (show k-1<i by lia),aN h2];lia
  ·rw[aM h1,aM (show ¬k-1<i by lia),aM h2];lia
def up{l:ae}{k:Nat}(h0:1<=k)(h:k<l.length)(hr:l[k-1]'()<l[k]):Below l (ex l k):=by
 rw[xM h0 h];exact uG () h () hr
def lift{u w:ae}{k:Nat}(hl:u.length=w.length)(h0:1<=k)(h:k<w.length)(hr:w[k-1]'()<w[k])(hb:Below u w):Below (ex u k) (ex w k):=by
 have hu:k<u.length:=()
 intro i j;rw[tN h0 hu,tN h0 h];by_cases hi:i=k
 ·subst hi;rw[aN rfl,aN rfl];have b1:=hb (i-1) j;have b2:=hb i j;have b3:=hb (i+1) j;have c1:=j6 (l:=u) (i:=i-1) () j;have c2:=j6 (l:=w) (i:=i-1) () j;have c3:=j6 (l:=u) (i:=i) hu j;have c4:=j6 (l:=w) (i:=i) h j;rw[show i-1+1=i by lia]at c1 c2;rw[c3,c4]at b3;rw[c1,c2]at b2 b3;rw[c1,c2];revert b1 b2 b3
  (repeat' split)<;>intros<;>lia
 ·rw[aM hi,aM hi];have:=hb i j
  lia
abbrev jN:ae->ag->Prop
 | _,[]=>True
 | l,k::w=>1<=k/\k<l.length/\l.getD (k-1) 0<l.getD k 0/\jN (ex l k) w
theorem jN.snoc:∀{w:ag}{l:ae}{k:Nat},jN l w->1<=k->k<l.length->(led l w).getD (k-1) 0<(led l w).getD k 0->jN l (w++[k])
 | [],l,k,_,h0,h1,h2=>⟨h0,h1,h2,trivial⟩
 | m::w,l,k,h,h0,h1,h2=>⟨h.1,h.2.1,h.2.2.1,jN.snoc h.2.2.2 h0 (by rw[mW];exact h1) h2⟩
theorem jN.valid:∀{w:ag}{l:ae},jN l w->∀k∈w,1<=k/\k<l.length
 | [],_,_,k,hk=>by cases hk
 | m::w,l,h,k,hk=>by
  rcases bJ.mp hk with z|z
  ·rw[z];exact⟨h.1,h.2.1⟩
  ·have:=jN.valid h.2.2.2 k z;rw[mW]at this;exact this
theorem rD:∀{w:ag}{l:ae},jN l w->Below l (led l w)
 | [],l,_=>Below.refl l
 | k::w,l,h=>by
  have h0:=h.1;have h1:=h.2.1;have h2:=h.2.2.1;rw[jK h1,jK (show k-1<l.length by lia)]at h2;exact(up h0 h1 h2).trans (rD h.2.2.2)
abbrev sw (k:Nat)(x:Int):Int:=if x=k then(k:Int)+1 else if x=(k:Int)+1 then k else x
def ex_map(f:Int->Int){l:ae}{k:Nat}(h0:1<=k)(h:k<l.length):ex (l.map f) k=(ex l k).map f:=by
 rw[xM h0 h,xM h0 (by rw[aK];exact h),gu,gu,eK,eK]
theorem C4(f:Int->Int):∀{w:ag}{l:ae},(∀k∈w,1<=k/\k<l.length)->led (l.map f) w=(led l w).map f
 | [],_,_=>rfl
 | k::w,l,h=>by
  have hk:=h k (aW ..);show led (ex (l.map f) k) w=(led (ex l k) w).map f;rw[ex_map f hk.1 hk.2,C4 f λm hm=>by rw[mW];exact h m (aV _ hm)]
def lX{n p:Nat}(h:p<n):(jw 1 ((n:Int)+1))[p]?=some ((p:Int)+1):=by
 unfold jw;rw[aT,bR ()];simp;lia
def jY(n:Nat):(jw 1 ((n:Int)+1)).length=n:=by rw[kr];lia
def mX{l:ae}{k:Nat}(h0:1<=k)(h:k<l.length)(p:Nat):(ex l k)[p]?=if p=k then l[k-1]? else if p=k-1 then l[k]? else l[p]?:=by
 rw[xM h0 h,d8];by_cases h1:k=p
 ·rw[aN h1,aN h1.symm,aN (by rw[bG];lia),aG]
 ·rw[aM h1,aM (λz=>h1 z.symm),d8];by_cases h2:k-1=p
  ·rw[aN h2,aN h2.symm,aN (),aG]
  ·rw[aM h2,aM (λz=>h2 z.symm)]
def OB{n k:Nat}(h0:1<=k)(h:k<n):ex (jw 1 ((n:Int)+1)) k=(jw 1 ((n:Int)+1)).map (sw k):=by
 apply b_;intro p;rw[mX h0 (by rw[jY];exact h),aT];by_cases hp:p<n
 ·rw[lX hp,lX h,lX (show k-1<n by lia)];show _=some (sw k ((p:Int)+1));unfold sw;by_cases h1:p=k
  ·rw[aN h1,aM (),aN ()];congr 1;lia
  ·rw[aM h1];by_cases h2:p=k-1
   ·rw[aN h2,aN ()]
   ·rw[aM h2,aM (),aM ()]
 ·have e:(jw 1 ((n:Int)+1))[p]?=none:=bC (by rw[jY];lia);rw[aM (),aM (),e];rfl
def Fq{A B:ae}{k:Nat}(h0:1<=k)(h:k<A.length)(hb:uy A B):uy (ex A k) (B.map (sw k)):=by
 refine⟨by rw[mW,aK];exact hb.1,λp hp=>?_⟩;rw[mW]at hp;have hg:(ex A k)[p]'(by rw[mW];exact hp)=if p=k then A[k-1]'()else if p=k-1 then A[k]else A[p]:=by
  have:=mX h0 h p;rw[aG (by rw[mW];exact hp)]at this;by_cases h1:p=k
  ·rw[aN h1,aG (show k-1<A.length by lia)]at this;rw[aN h1];exact aR this
  ·rw[aM h1]at this;rw[aM h1];by_cases h2:p=k-1
   ·rw[aN h2,aG h]at this;rw[aN h2];exact aR this
   ·rw[aM h2,aG hp]at this;rw[aM h2];exact aR this
 rw[hg,aT];by_cases h1:p=k
 ·rw[aN h1,hb.2 (k-1) ()];show some (sw k _)=_;unfold sw;rw[aN ()];congr 1;lia
 ·rw[aM h1];by_cases h2:p=k-1
  ·rw[aN h2,hb.2 k h];show some (sw k _)=_;unfold sw;rw[aM (),aN ()];congr 1;lia
  ·rw[aM h2,hb.2 p hp];show some (sw k _)=_;unfold sw;rw[aM (),aM ()]
theorem Hy{n:Nat}:∀(w:ag),(∀k∈w,1<=k/\k<n)->uy (led (jw 1 ((n:Int)+1)) w.reverse) (led (jw 1 ((n:Int)+1)) w)
 | [],_=>⟨rfl,λp hp=>by
  have hp:p<n:=by rw[show([]:ag).reverse=[]from rfl]at hp;have:p<(jw 1 ((n:Int)+1)).length:=hp;rw[jY]at this;exact this
  have e:(jw 1 ((n:Int)+1))[p]'(by rw[jY];exact hp)=(p:Int)+1:=by
   have:=lX hp;rw[aG (by rw[jY];exact hp)]at this;exact aR this
  show(jw 1 ((n:Int)+1))[(((jw 1 ((n:Int)+1))[p]'(by rw[jY];exact hp))-1).toNat]?=_;rw[e,show((p:Int)+1-1).toNat=p by lia];exact lX hp⟩
 | k::w,h=>by
  have hk:=h k (aW ..);have hw:=λm hm=>h m (aV k hm);have ih:=Hy w hw;rw[dW,EF];show uy (ex (led (jw 1 ((n:Int)+1)) w.reverse) k) (led (ex (jw 1 ((n:Int)+1)) k) w);rw[OB hk.1 hk.2,C4 (sw k) (λm hm=>by rw[jY];exact hw m hm)];exact Fq hk.1 (by rw[EJ,jY];exact hk.2) ih
end Wd
namespace Iv
open L2 Bl
abbrev inv:ae->Nat
 | []=>0
 | x::l=>l.countP (λy=>decide (y<x))+inv l
abbrev j5 (a b:ae):Nat:=(a.map λx=>b.countP λy=>decide (y<x)).sum
def nZ(x:Int)(a b:ae):j5 (x::a) b=b.countP (λy=>decide (y<x))+j5 a b:=rfl
theorem jB:∀(a b:ae),inv (a++b)=inv a+inv b+j5 a b
 | [],b=>by show inv b=0+inv b+0;lia
 | x::a,b=>by
  show(a++b).countP _+inv (a++b)=(a.countP _+inv a)+inv b+j5 (x::a) b;rw[List.countP_append,jB a b,nZ];lia
theorem sC:∀{a b:ag},a.Perm b->a.sum=b.sum
 | _,_,.nil=>rfl
 | _,_,.cons x h=>by rw[eg,eg,sC h]
 | _,_,.swap x y l=>by rw[eg,eg,eg,eg];lia
 | _,_,.trans h k=>(sC h).trans (sC k)
def CI{a:ae}(b:ae)(h:a.Perm a'):j5 a b=j5 a' b:=sC (h.map _)
def DN(a:ae){b:ae}(h:b.Perm b'):j5 a b=j5 a b':=by
 unfold j5;congr 1;refine fL λx _=>h.countP_eq _
def yM{M:ae}{x y:Int}(h:∀m∈M,m<x\/y<m)(hxy:x<y):M.countP (λm=>decide (m<x))=M.countP (λm=>decide (m<y)):=by
 refine List.countP_congr λm hm=>?_;rw[fY,fY]
 rcases h m hm with z|z<;>omega
theorem uE:∀{M:ae}{x y:Int},(∀m∈M,m<x\/y<m)->x<y->j5 M [x]=j5 M [y]
 | [],_,_,_,_=>rfl
 | m::M,x,y,h,hxy=>by
  rw[nZ,nZ,uE (λm' hm=>h m' (aV _ hm)) hxy];congr 1;have:=h m (aW ..);dsimp[b7,iR];by_cases c:x<m
  ·rw[bg c,bg (show y<m by omega)]
  ·rw[a_ c,a_ (show ¬y<m by omega)]
def mid{M:ae}{x y:Int}(h:∀m∈M,m<x\/y<m)(hxy:x<y):inv ([y]++M++[x])=inv ([x]++M++[y])+1:=by
 rw[jB,jB,jB ([x]++M),jB [x]];have e1:j5 [y] M=j5 [x] M:=by
  show M.countP _+0=M.countP _+0;rw[yM h hxy]
 have e2:j5 ([y]++M) [x]=1+j5 M [x]:=by
  show[x].countP _+j5 M [x]=_;rw[b7,bg hxy];rfl
 have e3:j5 ([x]++M) [y]=j5 M [y]:=by
  show[y].countP _+j5 M [y]=_;rw[b7,a_ (by lia:¬y<x)];simp
 rw[e1,e2,e3,uE h hxy]
 skip
 lia
def qv(M:ae)(x y:Int):([y]++M++[x]).Perm ([x]++M++[y]):=by
 refine(List.perm_append_comm (l₁:=[y]++M) (l₂:=[x])).trans ?_
 skip
 exact .cons x (List.perm_append_comm (l₁:=[y]) (l₂:=M))
def step{P M R:ae}{x y:Int}(h:∀m∈M,m<x\/y<m)(hxy:x<y):inv (P++([y]++M++[x])++R)=inv (P++([x]++M++[y])++R)+1:=by
 have p:=qv M x y;rw[jB,jB P,jB (P++([x]++M++[y])),jB P,mid h hxy,DN P p,CI R (p.append_left P)]
 lia
theorem uA:∀(l:ae),inv l<=l.length * l.length
 | []=>aP _
 | x::l=>by
  show l.countP _+inv l<=(l.length+1) * (l.length+1);have h1:=List.countP_le_length (p:=λy=>decide (y<x)) (l:=l);have h2:=uA l;rw[iY,Nat.mul_add]
  lia
def sG(x v:Int):cnt [x] v=if v<=x then 1 else 0:=by show(if v<=x then 1 else 0)+0=_;lia
theorem zM:∀(l:ae) {v w:Int},v<=w->cnt l w<=cnt l v
 | [],_,_,_=>fm _
 | x::l,v,w,h=>by
  have:=zM l h;show(if w<=x then 1 else 0)+cnt l w<=(if v<=x then 1 else 0)+cnt l v;split<;>split<;>lia
theorem CM:∀(l:ae) {v w:Int},(∀m∈l,m<v\/w<=m)->v<=w->cnt l v=cnt l w
 | [],_,_,_,_=>rfl
 | x::l,v,w,h,hvw=>by
  have:=CM l (λm hm=>h m (aV _ hm)) hvw;have:=h x (aW ..);show(if v<=x then 1 else 0)+cnt l v=(if w<=x then 1 else 0)+cnt l w;split<;>split<;>lia
def Bm{P M R B:ae}{x y z:Int}(hb:Below (P++([x]++M++[y])++R) (P++z::B))(hxy:x<y)(hyz:y<=z)(hM:∀m∈M,m<x\/z<m):Below (P++([y]++M++[x])++R) (P++z::B):=by
 intro p v;have h0:=hb p v;by_cases c1:p<=P.length
 ·have e:∀L:ae,(P++L).take p=P.take p:=λL=>by rw[gP c1]
  rw[bH,e,e]at h0 ⊢;exact h0
 ·by_cases c2:p<=P.length+1+M.length
  ·obtain⟨q,hq⟩:∃q,p=P.length+(q+1):=⟨p-P.length-1,()⟩;have ea:∀(u w:Int),(P++([u]++M++[w])++R).take p=P++(u::M.take q):=λu w=>by
    rw[bH,hq,iH,cQ (),show P.length+(q+1)-P.length=q+1 by lia];congr 1;show(u::((M++[w])++R)).take (q+1)=_;rw[List.take_succ_cons,bH,gP ()]
   have eb:(P++z::B).take p=P++(z::B.take q):=by
    rw[hq,iH,cQ (),show P.length+(q+1)-P.length=q+1 by lia,List.take_succ_cons]
   rw[ea,eb,cnt_append,cnt_append]at h0 ⊢;have h1:=hb p (z+1);rw[ea,eb,cnt_append,cnt_append]at h1;have f:∀(u t:Int) (L:ae),cnt (u::L) t=(if t<=u then 1 else 0)+cnt L t:=λ_ _ _=>rfl;rw[f,f]at h0 h1 ⊢;by_cases c3:x<v/\v<=y
   ·rw[aM (),aM ()]at h1;rw[aN c3.2,aN ()];have g1:cnt (M.take q) v=cnt (M.take q) (z+1):=CM _ (λm hm=>by
     rcases hM m (bK hm)with t|t
     ·left;lia
     ·right;lia) ()
    have g2:=zM (B.take q) (show v<=z+1 by lia)
    lia
   ·have:(if v<=y then(1:Int)else 0)=if v<=x then 1 else 0:=by
     by_cases d:v<=x
     ·rw[aN d,aN ()]
     ·rw[aM d,aM (λt=>c3 ⟨(),t⟩)]
    rw[this];exact h0
  ·have ea:∀(u w:Int),(P++([u]++M++[w])++R).take p=P++([u]++M++[w])++R.take (p-(P.length+1+M.length+1)):=λu w=>by
    have l:(P++([u]++M++[w])).length=P.length+1+M.length+1:=by simp;lia
    rw[iH,cQ (by rw[l];lia),l]
   rw[ea]at h0 ⊢;have:=vD (((qv M x y).append_left P).append_right (R.take (p-(P.length+1+M.length+1)))) v;rw[this];exact h0
abbrev sw (a:ae)(i j:Nat):ae:=(a.set i (a.getD j 0)).set j (a.getD i 0)
def Oj(a:ae)(i j:Nat):(sw a i j).length=a.length:=by unfold sw;rw[bG,bG]
def split{a:ae}(hij:i<j)(hj:j<a.length):∃P M R:ae,a=P++([a.getD i 0]++M++[a.getD j 0])++R/\P=a.take i/\(∀m∈M,∃k,i<k/\k<j/\a[k]?=some m)/\sw a i j=P++([a.getD j 0]++M++[a.getD i 0])++R:=by
 have gi:a.getD i 0=a[i]:=by rw[aI,aG ()];rfl
 have gj:a.getD j 0=a[j]:=by rw[aI,aG hj];rfl
 obtain⟨M,hM⟩:∃M,M=(a.drop (i+1)).take (j-i-1):=⟨_,rfl⟩;have lM:M.length=j-i-1:=by rw[hM,bw,cB];lia
 have ea:a=a.take i++([a.getD i 0]++M++[a.getD j 0])++a.drop (j+1):=by
  have h1:a.drop i=a[i]::a.drop (i+1):=bQ ();have h2:a.drop (i+1)=M++a.drop j:=by
   rw[hM];have:=cK (j-i-1) (a.drop (i+1));rw[List.drop_drop,show i+1+(j-i-1)=j by lia]at this;exact this.symm
  have h3:a.drop j=a[j]::a.drop (j+1):=bQ hj
  conv=>lhs;rw[<- cK i a,h1,h2,h3]
  rw[gi,gj];simp
 refine⟨a.take i,M,a.drop (j+1),ea,rfl,λm hm=>?_,?_⟩
 ·rw[hM]at hm;obtain⟨k,hk⟩:=dY hm;have hlt:k<j-i-1:=by
   have:=(aJ.mp hk).1;rw[bw]at this;lia
  rw[cY hlt,eU]at hk;exact⟨i+1+k,(),(),hk⟩
 ·have key:∀(P R:ae) (x y x' y':Int),P.length=i->((P++([x]++M++[y])++R).set i y').set j x'=P++([y']++M++[x'])++R:=λP R x y x' y' lP=>by
   rw[bH,cX _ _ (),lP,fG];show(P++(y'::((M++[y])++R))).set j x'=_;rw[cX _ _ (),lP,show j-i=(j-i-1)+1 by lia,List.set_cons_succ,bH,cX _ _ (),lM,fG];simp
  have:=key (a.take i) (a.drop (j+1)) (a.getD i 0) (a.getD j 0) (a.getD i 0) (a.getD j 0) (by rw[bw];lia);rw[<- ea]at this;exact this
def p5{a:ae}{i:Nat}(h:i<a.length):a[i]?=some (a.getD i 0):=by rw[aI,aG h];rfl
def part{a b:ae}{n:Nat}(pa:a.Perm (jw 1 ((n:Int)+1)))(pb:b.Perm (jw 1 ((n:Int)+1)))(la:a.length=n)(lb:b.length=n)(hb:Below a b)(hi:a.take i=b.take i)(hin:i<n)(hne:a.getD i 0≠b.getD i 0) :
  a.getD i 0<b.getD i 0/\∃j,i<j/\j<n/\a.getD j 0=b.getD i 0:=by
 have hx:=p5 (a:=a) (i:=i) ();have hy:=p5 (a:=b) (i:=i) ();have ta:a.take (i+1)=a.take i++[a.getD i 0]:=by rw[iX,hx];rfl
 have tb:b.take (i+1)=b.take i++[b.getD i 0]:=by rw[iX,hy];rfl
 have h:=hb (i+1) (a.getD i 0);rw[ta,tb,hi,cnt_append,cnt_append,sG,sG,aN (fm _)]at h;have hle:a.getD i 0<=b.getD i 0:=by
  by_cases c:a.getD i 0<=b.getD i 0
  ·exact c
  ·rw[aM c]at h;lia
 refine⟨(),?_⟩;have hm:b.getD i 0∈a:=(pa.trans pb.symm).mem_iff.mpr (aY hy);obtain⟨j,hj⟩:=dY hm;have hjn:j<n:=by have:=(aJ.mp hj).1;lia
 have nb:b.Nodup:=pb.nodup_iff.mpr (p8 _ _);refine⟨j,?_,hjn,?_⟩
 ·rcases Nat.lt_trichotomy j i with c|c|c
  ·have e:(a.take i)[j]?=some (b.getD i 0):=by rw[cY c];exact hj
   rw[hi,cY c]at e;obtain⟨h1,g1⟩:=aJ.mp e;obtain⟨h2,g2⟩:=aJ.mp hy;exact absurd ((dG nb).mp (g1.trans g2.symm)) ()
  ·subst c;rw[hx]at hj;exact absurd (aR hj) hne
  ·exact c
 ·rw[aI,hj];rfl
def Mn{a b:ae}{n:Nat}(la:a.length=n)(lb:b.length=n)(hb:Below a b)(hi:a.take i=b.take i)(hij:i<j)(hj:j<n)(h1:a.getD i 0<a.getD j 0)(h2:a.getD j 0<=b.getD i 0)(hno:∀k,i<k->k<j->¬(a.getD i 0<a.getD k 0/\a.getD k 0<=b.getD i 0))(nd:a.Nodup) :
  Below (sw a i j) b/\inv (sw a i j)=inv a+1/\(sw a i j).Perm a:=by
 obtain⟨P,M,R,ea,eP,hM,es⟩:=split hij (show j<a.length by lia);have eb:b=P++b.getD i 0::b.drop (i+1):=by
  have:b.drop i=b.getD i 0::b.drop (i+1):=by
   rw[bQ ()];congr 1;rw[aI,aG ()];rfl
  conv=>lhs;rw[<- cK i b,this,<- hi,<- eP]
 have hgap:∀m∈M,m<a.getD i 0\/b.getD i 0<m:=λm hm=>by
  obtain⟨k,k1,k2,hk⟩:=hM m hm;have e:a.getD k 0=m:=by rw[aI,hk];rfl
  have:=hno k k1 k2;rw[e]at this;have hne:m≠a.getD i 0:=λz=>by
   have hx:=p5 (a:=a) (i:=i) ();rw[<- z]at hx;obtain⟨q1,g1⟩:=aJ.mp hk;obtain⟨q2,g2⟩:=aJ.mp hx;exact absurd ((dG nd).mp (g1.trans g2.symm)) ()
  lia
 have hgap2:∀m∈M,m<a.getD i 0\/a.getD j 0<m:=λm hm=>by
  rcases hgap m hm with t|t
  ·exact .inl t
  ·right;lia
 refine⟨?_,?_,?_⟩
 ·rw[es,eb];refine Bm ?_ h1 h2 hgap;rw[<- ea,<- eb];exact hb
 ·rw[es,step hgap2 h1,<- ea]
 ·rw[es];have:=((qv M (a.getD i 0) (a.getD j 0)).append_left P).append_right R;rw[<- ea]at this;exact this
end Iv
namespace Nu
open PySem L2
abbrev rm:Nat->Nat
 | 0=>1
 | n+1=>(n+1) * rm n
theorem Em:∀n,0<rm n
 | 0=>Nat.one_pos
 | n+1=>Nat.mul_pos (succ_pos _) (Em n)
def A6(n:Nat):rm n<=rm (n+1):=Nat.le_mul_of_pos_left _ (succ_pos _)
def HL{a:Nat}(h:a<=b):rm a<=rm b:=by
 induction h with
 | refl=>exact aP _
 | step _ ih=>exact bS ih (A6 _)
abbrev rank:ae->Nat
 | []=>0
 | x::xs=>(xs.filter (· < x)).length * rm xs.length+rank xs
abbrev SG:Nat->ae->Nat->ae
 | 0,_,_=>[]
 | n+1,l,m=>l.getD (m / rm n) 0::SG n (l.eraseIdx (m / rm n)) (m % rm n)
def FA{l:ae}{q:Nat}(hs:l.Pairwise (· < ·))(h:q<l.length):((l.eraseIdx q).filter (· < l[q])).length=q:=by
 have e:l=l.take q++l[q]::l.drop (q+1):=by rw[List.getElem_cons_drop,cK]
 rw[gz,List.filter_append];have hs':=hs;rw[e,bZ]at hs';obtain⟨_,h2,h3⟩:=hs';rw[List.filter_eq_self.mpr λa ha=>bg (h3 a ha _ (aW ..)),List.filter_eq_nil_iff.mpr λa ha z=>?_]
 ·rw[cA,bw];lia
 ·have z:=c8 z;have:=(cg.mp h2).1 a ha
  lia
def pX{l:ae}{i:Nat}(h:i<l.length):(l[i]::l.eraseIdx i).Perm l:=by
 have e:l=l.take i++l[i]::l.drop (i+1):=by rw[List.getElem_cons_drop,cK]
 rw[gz];exact(List.perm_middle.symm).trans (by rw[<- e])
def LM{l:ae}{q:Nat}(h:q<l.length):l.getD q 0=l[q]:=by rw[aI,aG h];rfl
theorem Ea:∀(n:Nat) (l xs:ae),l.length=n->l.Pairwise (· < ·)->xs.Perm l->rank xs<rm n/\SG n l (rank xs)=xs
 | 0,l,xs,hl,_,hp=>by
  have:l=[]:=List.eq_nil_of_length_eq_zero hl;subst this;have:=hp.eq_nil;subst this;exact⟨Nat.one_pos,rfl⟩
 | n+1,l,[],hl,_,hp=>by have:=hp.length_eq;rw[hl]at this;cases this
 | n+1,l,x::xs,hl,hs,hp=>by
  have hx:x∈l:=hp.mem_iff.mp (aW ..);obtain⟨j,hj,ej⟩:=List.getElem_of_mem hx;have hp':xs.Perm (l.eraseIdx j):=by
   have h1:=pX hj;rw[ej]at h1;exact(hp.trans h1.symm).cons_inv
  have le:(l.eraseIdx j).length=n:=by rw[List.length_eraseIdx,aN hj];lia
  obtain⟨h1,h2⟩:=Ea n (l.eraseIdx j) xs le (hs.sublist (List.eraseIdx_sublist ..)) hp';have hc:(xs.filter (· < x)).length=j:=by
   rw[(hp'.filter _).length_eq,<- ej];exact FA hs hj
  have lx:xs.length=n:=by rw[hp'.length_eq,le]
  have er:rank (x::xs)=j * rm n+rank xs:=by
   show(xs.filter (· < x)).length * rm xs.length+rank xs=_;rw[hc,lx]
  have ed:(j * rm n+rank xs) / rm n=j:=by
   rw[fB,Nat.mul_add_div (Em n),iI h1];rfl
  have em:(j * rm n+rank xs) % rm n=rank xs:=by
   rw[fB,Nat.mul_add_mod,iJ h1]
  rw[er];refine⟨?_,?_⟩
  ·show _<(n+1) * rm n
   calc j * rm n+rank xs<j * rm n+rm n:=()
    _=(j+1) * rm n:=(Nat.succ_mul _ _).symm
    _<=(n+1) * rm n:=fq _ ()
  ·show l.getD ((j * rm n+rank xs) / rm n) 0::SG n (l.eraseIdx ((j * rm n+rank xs) / rm n)) ((j * rm n+rank xs) % rm n)=_;rw[ed,em,LM hj,ej,h2]
def GC(i j:Int):(jw i j).Pairwise (· < ·):=by
 unfold jw;rw[dX];exact gc.imp λh=>()
end Nu
namespace Fw
open PySem L2 Bl
open Wd (ex led)
meta abbrev rg (n:Nat):ae:=jw 1 ((n:Int)+1)
def JK{l:ae}{k:Nat}(h0:1<=k)(h:k<l.length):ex (ex l k) k=l:=by
 apply b_;intro p;have h':k<(ex l k).length:=by rw[Wd.mW];exact h
 rw[Wd.mX h0 h',Wd.mX h0 h,Wd.mX h0 h,Wd.mX h0 h];by_cases c3:p=k
 ·rw[aN c3,aM (),aN rfl,c3]
 ·rw[aM c3];by_cases c2:p=k-1
  ·rw[aN c2,aN rfl,c2]
  ·rw[aM c2,aM c3,aM c2]
def MK{l:ae}{k:Nat}(h0:1<=k)(h:k<l.length):(ex l k).getD k 0=l.getD (k-1) 0:=by
 rw[aI,Wd.mX h0 h,aN rfl,aI]
def MZ{l:ae}{k:Nat}(h0:1<=k)(h:k<l.length):(ex l k).getD (k-1) 0=l.getD k 0:=by
 rw[aI,Wd.mX h0 h,aM (),aN rfl,aI]
def zB{l:ae}{k:Nat}(h0:1<=k)(h:k<l.length)(hr:l.getD (k-1) 0<l.getD k 0):Iv.inv (ex l k)=Iv.inv l+1:=by
 obtain⟨P,M,R,e,_,hM,es⟩:=Iv.split (a:=l) (i:=k-1) (j:=k) () h;have:=Iv.step (P:=P) (M:=M) (R:=R) (x:=l.getD (k-1) 0) (y:=l.getD k 0) (λm hm=>by obtain⟨_,_,_,_⟩:=hM m hm;lia) hr;rw[<- es,<- e]at this;exact this
def zm{l:ae}{k:Nat}(h0:1<=k)(h:k<l.length)(hr:l.getD k 0<l.getD (k-1) 0):Iv.inv l=Iv.inv (ex l k)+1:=by
 have:=zB (l:=ex l k) h0 (by rw[Wd.mW];exact h) (by rw[MK h0 h,MZ h0 h];exact hr);rw[JK h0 h]at this;exact this
abbrev Va (n:Nat)(w:ag):Prop:=∀k∈w,1<=k/\k<n
theorem BZ:∀{l:ae},l.Pairwise (·<=·)->Iv.inv l=0
 | [],_=>rfl
 | x::l,h=>by
  show l.countP (λy=>decide (y<x))+Iv.inv l=0;rw[BZ (cg.mp h).2,g7.mpr λa ha z=>by have:=c8 z;have:=(cg.mp h).1 a ha;lia]
def yV(n:Nat):Iv.inv (rg n)=0:=BZ (Cp _ _)
abbrev EV (l:ae)(k:Nat):Prop:=1<=k/\k<l.length/\l.getD k 0<l.getD (k-1) 0
def MO{l:ae}(h:∀k,¬EV l k):l.Pairwise (·<=·):=by
 have key:∀d i,i+d<l.length->l.getD i 0<=l.getD (i+d) 0:=by
  intro d
  induction d with
  | zero=>intro i _;exact fm _
  | succ d ih=>
   intro i hi;have h1:=ih i ();have h2:¬l.getD (i+d+1) 0<l.getD (i+d) 0:=λz=>h (i+d+1) ⟨(),hi,z⟩;rw[<- gK];lia
 rw[cT];intro i j hi hj hij;have:=key (j-i) i ();rw[show i+(j-i)=j by lia,Wd.jK hi,Wd.jK hj]at this;exact this
def IM{l:ae}{n:Nat}(p:l.Perm (rg n))(h:∀k,¬EV l k):l=rg n:=
 fO (λx y _ _ h1 h2=>iP h1 h2) (MO h) (Cp _ _) p
def LI(h:0<Iv.inv l):∃k,EV l k:=by
 refine fJ λz=>?_;rw[BZ (MO λk hk=>z ⟨k,hk⟩)]at h;exact absurd h (d9 _)
abbrev Dn:ae->ag->Prop
 | l,[]=>∀k,¬EV l k
 | l,k::ks=>(EV l k/\∀j,EV l j->k<=j)/\Dn (ex l k) ks
def G4{l:ae}{n k:Nat}(p:l.Perm (rg n))(h0:1<=k)(h:k<l.length):(ex l k).Perm (rg n):=(Wd.vm h0 h).trans p
structure Two (n:Nat)(o u:ae):Prop where
 po:o.Perm (rg n)
 pu:u.Perm (rg n)
 ou:uy o u
end Fw
namespace Ti
open PySem L2 Bl
open Wd (ex led)
open Fw (rg Va EV)
inductive Mv:ag->ag->Prop
 | comm (P R:ag) (a b:Nat) (h:a+2<=b\/b+2<=a):Mv (P++a::b::R) (P++b::a::R)
 | braid (P R:ag) (a b:Nat) (h:a+1=b\/b+1=a):Mv (P++a::b::a::R) (P++b::a::b::R)
inductive Con:ag->ag->Prop
 | refl (u:ag):Con u u
 | step {u v w:ag} (h:Con u v) (m:Mv v w):Con u w
end Ti
namespace Rd
open PySem L2
open Ti (Mv Con)
meta abbrev up (v:ag):ae:=v.map λk:Nat=>(k:Int)
theorem vB:∀(N:Nat) (l:ag),l.Nodup->(∀x∈l,x<N)->l.length<=N
 | 0,l,_,h=>by
  cases l with
  | nil=>exact aP _
  | cons x l=>exact absurd (h x (aW ..)) (gT _)
 | N+1,l,hn,h=>by
  by_cases c:N∈l
  ·have h1:=vB N (l.erase N) (hn.erase N) λx hx=>by
    have h1:=(List.Nodup.mem_erase_iff hn).mp hx;have:=h x h1.2;have:=h1.1
    lia
   have:=List.length_erase_of_mem c;have:=gp c
   lia
  ·have:=vB N l hn λx hx=>by
    have:=h x hx;have:x≠N:=λz=>c (z ▸ hx)
    lia
   lia
abbrev code:ag->Nat
 | []=>0
 | a::r=>(a-1)+8 * code r
abbrev U_ (L:Nat)(w:ag):Prop:=w.length=L/\∀k∈w,1<=k/\k<=8
meta abbrev En:=ag×Option (ag)
structure Bf (s:ag)(es:List En)(done:Nat):Prop where
 nd:(es.map (·.1)).Nodup
 hd:es[0]?=some (s,none)
 pr:∀i w q,es[i]?=some (w,q)->(i=0/\q=none)\/∃j r u,j<i/\es[j]?=some (u,r)/\q=some u/\Mv u w
 co:∀w∈es.map (·.1),Con s w
 cl:∀i w q,i<done->es[i]?=some (w,q)->∀w',Mv w w'->w'∈es.map (·.1)
 le:done<=es.length
end Rd
namespace Stp
open PySem L2 Iv
abbrev mm (a:ae)(i j:Nat):ae:=(a.drop (i+1)).take (j-i-1)
abbrev zI (x y m:Int):Bool:=decide (x<m) && decide (m<y)
theorem QV{x y:Int}(hxy:x<y):∀{M:ae},(∀m∈M,m≠x/\m≠y)->M.countP (λm=>decide (m<y))=M.countP (λm=>decide (m<x))+M.countP (zI x y)
 | [],_=>rfl
 | m::M,h=>by
  have ih:=QV hxy (M:=M) λk hk=>h k (aV _ hk);have hm:=h m (aW ..);rw[b7,b7,b7,ih];unfold zI;by_cases c:m<x
  ·rw[bg c,bg (show m<y by lia),a_ (show ¬x<m by lia)];simp;lia
  ·rw[a_ c,bg (show x<m by lia)];by_cases c2:m<y
   ·rw[bg c2];simp;lia
   ·rw[a_ c2];simp
theorem Ry{x y:Int}(hxy:x<y):∀{M:ae},(∀m∈M,m≠x/\m≠y)->j5 M [x]=j5 M [y]+M.countP (zI x y)
 | [],_=>rfl
 | m::M,h=>by
  have ih:=Ry hxy (M:=M) λk hk=>h k (aV _ hk);have hm:=h m (aW ..);rw[nZ,nZ,ih,b7 (l:=M)];dsimp[b7,iR];unfold zI;by_cases c:x<m
  ·rw[bg c];by_cases c2:m<y
   ·rw[bg c2,a_ (show ¬y<m by lia)];simp;lia
   ·rw[a_ c2,bg (show y<m by lia)];simp;lia
  ·rw[a_ c,a_ (show ¬y<m by lia)];simp
def Us{M:ae}{x y:Int}(h:∀m∈M,m≠x/\m≠y)(hxy:x<y):inv ([y]++M++[x])=inv ([x]++M++[y])+1+2 * M.countP (zI x y):=by
 rw[jB,jB,jB ([x]++M),jB [x]];have e1:j5 [y] M=j5 [x] M+M.countP (zI x y):=by
  show M.countP _+0=M.countP _+0+_;rw[QV hxy h];lia
 have e2:j5 ([y]++M) [x]=1+j5 M [x]:=by
  show[x].countP _+j5 M [x]=_;rw[b7,bg hxy];rfl
 have e3:j5 ([x]++M) [y]=j5 M [y]:=by
  show[y].countP _+j5 M [y]=_;rw[b7,a_ (by lia:¬y<x)];simp
 rw[e1,e2,e3,Ry hxy h];show 0+inv M+_+0+_=0+inv M+_+0+_+1+_
 lia
def Jy{P M R:ae}{x y:Int}(h:∀m∈M,m≠x/\m≠y)(hxy:x<y):inv (P++([y]++M++[x])++R)=inv (P++([x]++M++[y])++R)+1+2 * M.countP (zI x y):=by
 have p:=qv M x y;rw[jB,jB P,jB (P++([x]++M++[y])),jB P,Us h hxy,DN P p,CI R (p.append_left P)]
 lia
def parts{a:ae}(hij:i<j)(hj:j<a.length):a=a.take i++([a.getD i 0]++mm a i j++[a.getD j 0])++a.drop (j+1):=by
 have gi:a.getD i 0=a[i]:=by rw[aI,aG ()];rfl
 have gj:a.getD j 0=a[j]:=by rw[aI,aG hj];rfl
 have h1:a.drop i=a[i]::a.drop (i+1):=bQ ();have h2:a.drop (i+1)=mm a i j++a.drop j:=by
  have:=cK (j-i-1) (a.drop (i+1));rw[List.drop_drop,show i+1+(j-i-1)=j by lia]at this;exact this.symm
 have h3:a.drop j=a[j]::a.drop (j+1):=bQ hj
 conv=>lhs;rw[<- cK i a,h1,h2,h3]
 rw[gi,gj];simp
def Sn{a:ae}(hij:i<j)(hj:j<a.length):sw a i j=a.take i++([a.getD j 0]++mm a i j++[a.getD i 0])++a.drop (j+1):=by
 have lM:(mm a i j).length=j-i-1:=by unfold mm;rw[bw,cB];lia
 have key:∀(P R:ae) (x y x' y':Int),P.length=i->((P++([x]++mm a i j++[y])++R).set i y').set j x'=P++([y']++mm a i j++[x'])++R:=λP R x y x' y' lP=>by
  rw[bH,cX _ _ (),lP,fG];show(P++(y'::((mm a i j++[y])++R))).set j x'=_;rw[cX _ _ (),lP,show j-i=(j-i-1)+1 by lia,List.set_cons_succ,bH,cX _ _ (),lM,fG];simp
 have:=key (a.take i) (a.drop (j+1)) (a.getD i 0) (a.getD j 0) (a.getD i 0) (a.getD j 0) (by rw[bw];lia);rw[<- parts hij hj]at this;exact this
def SE{a:ae}(nd:a.Nodup)(hij:i<j)(hj:j<a.length):∀m∈mm a i j,m≠a.getD i 0/\m≠a.getD j 0:=λm hm=>by
 have e:=parts hij hj;rw[e]at nd;have nd2:=(cD.mp (cD.mp nd).1).2.1;have n3:=cD.mp nd2;have n4:=cD.mp n3.1;exact⟨λz=>n4.2.2 _ (bB.mpr rfl) m hm z.symm,λz=>n3.2.2 m (aX _ hm) _ (bB.mpr rfl) z⟩
abbrev Fb (a:ae)(i j:Nat):Bool:=!(mm a i j).any λm=>zI (if a.getD j 0<a.getD i 0 then a.getD j 0 else a.getD i 0) (if a.getD j 0>a.getD i 0 then a.getD j 0 else a.getD i 0) m
def Mb(p:Int->Bool)(M:ae):(!M.any p)=decide (M.countP p=0):=by
 by_cases h:M.countP p=0
 ·rw[bg h];rw[g7]at h;dsimp[Bool.not_eq_true',List.any_eq_false];exact h
 ·rw[a_ h];have:M.any p=true:=by
   rw[gH];refine fJ λz=>h (g7.mpr λa ha hp=>z ⟨a,ha,hp⟩)
  rw[this];rfl
def OY{a:ae}(nd:a.Nodup)(hij:i<j)(hj:j<a.length):(decide (a.getD i 0<a.getD j 0) && Fb a i j)=(decide (a.getD i 0<a.getD j 0) && decide (inv (sw a i j)=inv a+1)):=by
 by_cases c:a.getD i 0<a.getD j 0
 ·have e:=Jy (P:=a.take i) (R:=a.drop (j+1)) (SE nd hij hj) c;rw[<- Sn hij hj,<- parts hij hj]at e;unfold Fb;rw[Mb,aM (),aN c,bg c,gM,gM,decide_eq_decide];show(mm a i j).countP (zI (a.getD i 0) (a.getD j 0))=0 ↔ _
  lia
 ·rw[a_ c];rfl
def LK{a:ae}(hij:i<j)(hj:j<a.length):(sw a i j).Perm a:=by
 have e:=parts hij hj;rw[Sn hij hj]
 conv=>rhs;rw[e]
 exact((qv _ _ _).append_left _).append_right _
end Stp
namespace Cw
open PySem L2 Bl
open Wd (ex sw)
open Fw (rg)
abbrev rs (n:Nat):ag:=(jw 1 (n:Int)).map Int.toNat
abbrev sm (n:Nat)(f:Nat->Nat):Nat:=((rs n).map f).sum
abbrev cR (n:Nat):Nat->ae->Nat
 | 0,_=>1
 | m+1,l=>sm n λk=>if Iv.inv (ex l k)=m then cR n m (ex l k)else 0
abbrev cL (n:Nat):Nat->ae->Nat
 | 0,_=>1
 | m+1,l=>sm n λk=>if Iv.inv (l.map (sw k))=m then cL n m (l.map (sw k))else 0
def zero{n:Nat}{l:ae}(p:l.Perm (rg n))(h:Iv.inv l=0):l=rg n:=Fw.IM p λk hk=>by
 have:=Fw.zm hk.1 hk.2.1 hk.2.2
 lia
end Cw
namespace Eu
open PySem L2 Bl
open Wd (ex tN)
open Fw (rg EV)
def jK{l:ae}{k:Nat}(h:k<l.length):l.getD k 0=l[k]:=by rw[aI,aG h];rfl
theorem low{a b:ae}{k:Nat}(hl:a.length=b.length)(h0:1<=k)(h:k<b.length)(hb:b.getD k 0<b.getD (k-1) 0)(ha:a.getD (k-1) 0<=a.getD k 0)(hab:Below a b):Below a (ex b k):=by
 have hu:k<a.length:=()
 rw[jK h,jK (show k-1<b.length by lia)]at hb;rw[jK hu,jK (show k-1<a.length by lia)]at ha;intro i j;rw[tN h0 h];by_cases hi:i=k
 ·subst hi;rw[aN rfl];have b1:=hab (i-1) j;have b3:=hab (i+1) j;have c1:=j6 (l:=a) (i:=i-1) () j;have c2:=j6 (l:=b) (i:=i-1) () j;have c3:=j6 (l:=a) (i:=i) hu j;have c4:=j6 (l:=b) (i:=i) h j;rw[show i-1+1=i by lia]at c1 c2;rw[c3,c4,c1,c2]at b3;rw[c1,c2];revert b1 b3
  (repeat' split)<;>intros<;>lia
 ·rw[aM hi];have:=hab i j
  lia
def UA{a b:ae}{k:Nat}(hl:a.length=b.length)(h0:1<=k)(h:k<b.length)(hb:b.getD k 0<b.getD (k-1) 0)(ha:a.getD k 0<=a.getD (k-1) 0)(hab:Below a b):Below (ex a k) (ex b k):=by
 have hu:k<a.length:=()
 rw[jK h,jK (show k-1<b.length by lia)]at hb;rw[jK hu,jK (show k-1<a.length by lia)]at ha;intro i j;rw[tN h0 h,tN h0 hu];by_cases hi:i=k
 ·subst hi;rw[aN rfl,aN rfl];have b1:=hab (i-1) j;have b3:=hab (i+1) j;have c1:=j6 (l:=a) (i:=i-1) () j;have c2:=j6 (l:=b) (i:=i-1) () j;have c3:=j6 (l:=a) (i:=i) hu j;have c4:=j6 (l:=b) (i:=i) h j;rw[show i-1+1=i by lia]at c1 c2;rw[c3,c4,c1,c2]at b3;rw[c1,c2];revert b1 b3
  (repeat' split)<;>intros<;>lia
 ·rw[aM hi,aM hi];have:=hab i j
  lia
section
variable {n k:Nat}
def ln{z:ae}(p:z.Perm (rg n)):z.length=n:=by rw[p.length_eq,Wd.jY]
def QD{z:ae}(p:z.Perm (rg n))(h0:1<=k)(h:k<n):(ex z k).Perm (rg n):=Fw.G4 p h0 (by rw[ln p];exact h)
def PZ{z:ae}(p:z.Perm (rg n))(h0:1<=k)(h:k<n):ex (ex z k) k=z:=Fw.JK h0 (by rw[ln p];exact h)
def hi{z:ae}(p:z.Perm (rg n))(h0:1<=k)(h:k<n):(ex z k).getD k 0=z.getD (k-1) 0:=Fw.MK h0 (by rw[ln p];exact h)
def lo{z:ae}(p:z.Perm (rg n))(h0:1<=k)(h:k<n):(ex z k).getD (k-1) 0=z.getD k 0:=Fw.MZ h0 (by rw[ln p];exact h)
def VU{z:ae}(p:z.Perm (rg n))(h0:1<=k)(h:k<n)(hr:z.getD (k-1) 0<z.getD k 0):Below z (ex z k):=by
 have l:=ln p;refine Wd.up h0 () ?_;rw[<- jK,<- jK];exact hr
def VN{u w:ae}(pu:u.Perm (rg n))(pw:w.Perm (rg n))(h0:1<=k)(h:k<n)(hr:w.getD (k-1) 0<w.getD k 0)(hb:Below u w):Below (ex u k) (ex w k):=by
 have l:=ln pw;refine Wd.lift (by rw[ln pu,ln pw]) h0 () ?_ hb;rw[<- jK,<- jK];exact hr
end
abbrev al (n:Nat):List (ae):=(List.range (Nu.rm n)).map (Nu.SG n (rg n))
abbrev sg (z:ae):Int:=if Iv.inv z % 2=1 then -1 else 1
open Classical in
abbrev sm (n:Nat)(P:ae->Prop):Int:=((al n).map λz=>if P z then sg z else 0).sum
end Eu
namespace Eu
open PySem L2 Bl Am
open Fw (rg)
def least{p:Nat->Prop}:∀m,p m->∃q,p q/\∀k,k<q->¬p k:=by
 intro m
 induction m using Nat.strongRecOn with
 | _ m ih=>
  intro h;by_cases c:∃k,k<m/\p k
  ·obtain⟨k,h1,h2⟩:=c;exact ih k h1 h2
  ·exact⟨m,h,λk hk hp=>c ⟨k,hk,hp⟩⟩
def asc{n:Nat}{y z:ae}(py:y.Perm (rg n))(pz:z.Perm (rg n))(hb:Below y z)(hne:y≠z):∃i j,i<j/\j<n/\y.getD i 0<y.getD j 0/\Stp.Fb y i j=true/\Below (Iv.sw y i j) z/\Iv.inv (Iv.sw y i j)=Iv.inv y+1/\(Iv.sw y i j).Perm (rg n):=by
 have ly:=ln py;have lz:=ln pz;have ny:y.Nodup:=py.nodup_iff.mpr (p8 _ _);have hex:∃i,i<n/\y.getD i 0≠z.getD i 0:=by
  by_cases c:∃i,i<n/\y.getD i 0≠z.getD i 0
  ·exact c
  ·exfalso;refine hne (List.ext_getElem () λi h1 h2=>?_);rw[<- jK,<- jK];by_cases d:y.getD i 0=z.getD i 0
   ·exact d
   ·exact absurd ⟨i,(),d⟩ c
 obtain⟨i0,h0⟩:=hex;obtain⟨i,⟨hi,hd⟩,hmin⟩:=least (p:=λi=>i<n/\y.getD i 0≠z.getD i 0) i0 h0;have ht:y.take i=z.take i:=by
  apply b_;intro k;rw[List.getElem?_take,List.getElem?_take];by_cases c:k<i
  ·rw[aN c,aN c];have e:y.getD k 0=z.getD k 0:=by
    by_cases q:y.getD k 0=z.getD k 0
    ·exact q
    ·exact absurd ⟨(),q⟩ (hmin k c)
   rw[Iv.p5 (),Iv.p5 (),e]
  ·rw[aM c,aM c]
 obtain⟨hlt,j0,g1,g2,g3⟩:=Iv.part py pz ly lz hb ht hi hd;obtain⟨j,⟨hj1,hj2,hj3,hj4⟩,hjm⟩:=least (p:=λj=>i<j/\j<n/\y.getD i 0<y.getD j 0/\y.getD j 0<=z.getD i 0) j0 ⟨g1,g2,(),()⟩;obtain⟨b1,b2,b3⟩:=Iv.Mn ly lz hb ht hj1 hj2 hj3 hj4 (λk h1 h2 ⟨h3,h4⟩=>hjm k h2 ⟨h1,(),h3,h4⟩) ny;refine⟨i,j,hj1,hj2,hj3,?_,b1,b2,b3.trans py⟩;have:=Stp.OY ny hj1 (show j<y.length by lia);rw[bg hj3,bg b2,gM]at this;exact this
structure Done (n:Nat)(u w:ae)(es:List (ae×Bool)):Prop where
 nd:(es.map (·.1)).Nodup
 pm:∀e∈es,e.1.Perm (rg n)
 up:∀e∈es,Below u e.1
 fl:∀e∈es,(e.2=true ↔ Below e.1 w)
 st:u∈es.map (·.1)
 cl:∀e∈es,e.2=true->∀i j,i<j->j<n->e.1.getD i 0<e.1.getD j 0->Stp.Fb e.1 i j=true->Iv.sw e.1 i j∈es.map (·.1)
def Done.all{n:Nat}{w:ae}{es:List (ae×Bool)}(d:Done n u w es){z:ae}(pz:z.Perm (rg n))(hz:Below z w):∀(m:Nat) (y:ae),n * n-Iv.inv y=m->y∈es.map (·.1)->Below y z->z∈es.map (·.1):=by
 intro m
 induction m using Nat.strongRecOn with
 | _ m ih=>
  intro y hm hy hb;by_cases c:y=z
  ·rw[<- c];exact hy
  ·obtain⟨⟨y',b⟩,he,hye⟩:=bA.mp hy;have hye:y'=y:=hye;subst hye;have py:y'.Perm (rg n):=d.pm _ he;obtain⟨i,j,h1,h2,h3,h4,h5,h6,h7⟩:=asc py pz hb c;have hm2:=Iv.uA (Iv.sw y' i j);rw[ln h7,h6]at hm2;exact ih (n * n-Iv.inv (Iv.sw y' i j)) () _ rfl (d.cl _ he ((d.fl _ he).mpr (hb.trans hz)) i j h1 h2 h3 h4) h5
def Done.mem{n:Nat}{w:ae}{es:List (ae×Bool)}(d:Done n u w es)(z:ae):z∈(es.filter (·.2)).map (·.1) ↔ z.Perm (rg n)/\Below u z/\Below z w:=by
 rw[bA];constructor
 ·rintro⟨e,he,rfl⟩;obtain⟨h1,h2⟩:=bO.mp he;exact⟨d.pm e h1,d.up e h1,(d.fl e h1).mp h2⟩
 ·rintro⟨pz,h1,h2⟩;have:=d.all pz h2 _ u rfl d.st h1;obtain⟨e,he,rfl⟩:=bA.mp this;exact⟨e,bO.mpr ⟨he,(d.fl e he).mpr h2⟩,rfl⟩
def Done.nodup{n:Nat}{w:ae}{es:List (ae×Bool)}(d:Done n u w es):((es.filter (·.2)).map (·.1)).Nodup:=(d.nd).sublist ((c_ (l:=es)).map _)
abbrev ext (n:Nat)(p:ae):List (ae):=((rg n).filter λt=>decide (t∉p)).map λt=>p++[t]
abbrev inj (n:Nat):Nat->List (ae)
 | 0=>[[]]
 | k+1=>(inj n k).flatMap (ext n)
theorem sW{n:Nat}:∀{k:Nat}{p:ae},p∈inj n k ↔ p.length=k/\p.Nodup/\∀t∈p,t∈rg n
 | 0,p=>by
  unfold inj;rw[bB];constructor
  ·rintro rfl;simp
  ·rintro⟨h,_⟩;exact dm.mp h
 | k+1,p=>by
  unfold inj;rw[gI];constructor
  ·rintro⟨q,hq,hp⟩;obtain⟨t,ht,rfl⟩:=bA.mp hp;obtain⟨h1,h2⟩:=bO.mp ht;obtain⟨a,b,c⟩:=sW.mp hq;have h2:t∉q:=c8 h2;refine⟨by simp[a],?_,λx hx=>?_⟩
   ·rw[cD];refine⟨b,by simp,λx hx y hy z=>h2 ?_⟩;have:y=t:=by simpa using hy
    rw[<- this,<- z];exact hx
   ·rcases bh.mp hx with z|z
    ·exact c x z
    ·have:x=t:=by simpa using z
     rw[this];exact h1
  ·rintro⟨h1,h2,h3⟩
   rcases gA p with c|⟨q,t,c⟩
   ·rw[c]at h1;simp at h1
   ·rw[gB]at c;subst c;rw[cD]at h2;refine⟨q,sW.mpr ⟨by simpa using h1,h2.1,λx hx=>h3 x (bP _ hx)⟩,bA.mpr ⟨t,bO.mpr ⟨h3 t (by simp),bg λz=>h2.2.2 t z t (by simp) rfl⟩,rfl⟩⟩
def qT{n:Nat}{p:ae}:p∈inj n n ↔ p.Perm (rg n):=by
 rw[sW];constructor
 ·rintro⟨h1,h2,h3⟩;exact uL h2 h3 (by rw[h1,Wd.jY];exact aP _)
 ·intro p';exact⟨ln p',p'.nodup_iff.mpr (p8 _ _),λt ht=>p'.mem_iff.mp ht⟩
theorem DZ:∀{a b:ae}(x y:ae),a.length=b.length->HT.lexLt a b=true->HT.lexLt (a++x) (b++y)=true
 | [],[],_,_,_,h=>by cases h
 | [],_::_,_,_,h,_=>by simp at h
 | _::_,[],_,_,h,_=>by simp at h
 | p::a,q::b,x,y,hl,h=>by
  show HT.lexLt (p::(a++x)) (q::(b++y))=true;rw[HT.lE]at h ⊢;by_cases c:p=q
  ·rw[aN c]at h ⊢;exact DZ x y (by simpa using hl) h
  ·rw[aM c]at h ⊢;exact h
theorem Ac:∀(p:ae) {s t:Int},s<t->HT.lexLt (p++[s]) (p++[t])=true
 | [],s,t,h=>by
  show HT.lexLt [s] [t]=true;rw[HT.lE,aM (),bg h]
 | x::p,s,t,h=>by
  show HT.lexLt (x::(p++[s])) (x::(p++[t]))=true;rw[HT.lE,aN rfl];exact Ac p h
theorem zp{n:Nat}:∀(k:Nat),(inj n k).Pairwise λa b=>HT.lexLt a b=true
 | 0=>dw _ _
 | k+1=>by
  unfold inj;rw[List.pairwise_flatMap];refine⟨λp hp=>?_,fR (λ{a b} ha hb hab x hx y hy=>?_) (zp k)⟩
  ·unfold ext;rw[dX];refine gv (λ{a b} hab=>Ac p hab) ?_;exact(Nu.GC _ _).sublist c_
  ·obtain⟨s,_,rfl⟩:=bA.mp hx;obtain⟨t,_,rfl⟩:=bA.mp hy;exact DZ [s] [t] (by rw[(sW.mp ha).1,(sW.mp hb).1]) hab
def RH{a:ae}(h:HT.lexLt a b=true):E9 a b:=by
 show HT.lexLt b a=false
 cases c:HT.lexLt b a with
 | false=>rfl
 | true=>
  have:=Sx.we h c;rw[Sx.qV]at this;cases this
def Q4{n:Nat}{w:ae}{fs:List (ae)}(nf:fs.Nodup)(hm:∀z,z∈fs ↔ z.Perm (rg n)/\Below u z/\Below z w)(q:ae->Bool)(hq:∀z,z.Perm (rg n)->(q z=true ↔ Below u z/\Below z w)):lN fs=(inj n n).filter q:=by
 symm
 refine wo ?_ ?_
 ·have nd:((inj n n).filter q).Nodup:=by
   refine gC c_ (gv (λ{a b} h z=>?_) (zp n));rw[z,Sx.qV]at h;cases h
  refine(dO nd nf).mpr λz=>?_;rw[hm,bO,qT];constructor
  ·rintro⟨h1,h2⟩;exact⟨h1,(hq z h1).mp h2⟩
  ·rintro⟨h1,h2⟩;exact⟨h1,(hq z h1).mpr h2⟩
 ·exact gC c_ (gv RH (zp n))
def Done.told{n:Nat}{w:ae}{es:List (ae×Bool)}(d:Done n u w es)(q:ae->Bool)(hq:∀z,z.Perm (rg n)->(q z=true ↔ Below u z/\Below z w)):lN ((es.filter (·.2)).map (·.1))=(inj n n).filter q:=Q4 d.nodup d.mem q hq
end Eu
namespace Eu
open PySem L2 Bl Am
open Fw (rg)
def mono{n:Nat}{z:ae}(pz:z.Perm (rg n)):∀(m:Nat) (y:ae),n * n-Iv.inv y=m->y.Perm (rg n)->Below y z->Iv.inv y<=Iv.inv z/\(Iv.inv y=Iv.inv z->y=z):=by
 intro m
 induction m using Nat.strongRecOn with
 | _ m ih=>
  intro y hm py hb;by_cases c:y=z
  ·subst c;exact⟨aP _,λ_=>rfl⟩
  ·obtain⟨i,j,h1,h2,h3,h4,h5,h6,h7⟩:=asc py pz hb c;have hm2:=Iv.uA (Iv.sw y i j);rw[ln h7,h6]at hm2;have:=(ih (n * n-Iv.inv (Iv.sw y i j)) () _ rfl h7 h5).1;exact⟨(),λq=>()⟩
abbrev Up (n:Nat)(a l:ae):Prop:=∃i j,i<j/\j<n/\a.getD i 0<a.getD j 0/\Stp.Fb a i j=true/\l=Iv.sw a i j
structure Cb (n:Nat)(x y:ae)(k:Nat)(la fs:List (ae)):Prop where
 ly:∀z∈la,z.Perm (rg n)/\Below x z/\Iv.inv z=Iv.inv x+k
 fo:∀z,z.Perm (rg n)->Below x z->Below z y->Iv.inv z=Iv.inv x+k->z∈la
 fd:∀f,f∈fs ↔ f.Perm (rg n)/\Below x f/\Below f y/\Iv.inv f<Iv.inv x+k
 nl:la.Nodup
 nf:fs.Nodup
end Eu
namespace Po
open Am
meta abbrev Pl:=List (Int×Int)
abbrev val (d:Pl)(k:Int):Int:=((d.find? λp=>decide (p.1=k)).map (·.2)).getD 0
abbrev has (d:Pl)(k:Int):Bool:=d.any λp=>decide (p.1=k)
abbrev put (d:Pl)(k v:Int):Pl:=if has d k=true then d.map (λp=>if p.1=k then(p.1,v)else p)else d++[(k,v)]
abbrev acc (d:Pl)(k v:Int):Pl:=put d k (val d k+v)
abbrev cf:Pl->Int->Int
 | [],_=>0
 | p::l,k=>(if p.1=k then p.2 else 0)+cf l k
abbrev Q5 (d ps:Pl):Pl:=ps.foldl (λd p=>acc d p.1 p.2) d
structure Ok (l:Pl):Prop where
 up:l.Pairwise λp q=>p.1<q.1
 nz:∀p∈l,p.2≠0
abbrev Vh (d:Pl):Pl:=((sortI (d.map Prod.fst)).filter λk=>val d k != 0).map λk=>(k,val d k)
abbrev Rr (a b:Pl):Pl:=Vh (Q5 [] (a++b))
abbrev VW (a b:Pl):Pl:=a.flatMap λp=>b.map λq=>(p.1+q.1,p.2 * q.2)
abbrev times (a b:Pl):Pl:=Vh (Q5 [] (VW a b))
abbrev turn (a:Pl):Pl:=a.reverse.map λp=>(-p.1,p.2)
abbrev iv (d:Pl):List (Int×A):=d.map λp=>(p.1,.int p.2)
abbrev pA (p:Int×Int):A:=.tup [.int p.1,.int p.2]
abbrev pl (l:Pl):ad:=l.map pA
end Po
namespace Su
open Am Po PySem L2
meta abbrev En:=ae×Nat×Pl
meta abbrev Es:=List En
abbrev kv (e:En):ae×A:=(e.1,.ref e.2.1)
abbrev At (S:jd)(es:Es):Prop:=∀e∈es,i_ S e.2.1=some (pl e.2.2)
meta abbrev Ps:=List (ae×Pl)
abbrev sm (es:Es):Ps:=es.map λe=>(e.1,e.2.2)
abbrev vS (D:Ps)(o:ae):Pl:=((D.find? λe=>decide (e.1=o)).map (·.2)).getD []
abbrev hS (D:Ps)(o:ae):Bool:=D.any λe=>decide (e.1=o)
abbrev T4 (D:Ps)(o:ae)(p:Pl):Ps:=if hS D o=true then D.map (λe=>if e.1=o then(e.1,p)else e)else D++[(o,p)]
abbrev UZ (D:Ps)(o:ae)(p:Pl):Ps:=T4 D o (Rr (vS D o) p)
abbrev adds (D l:Ps):Ps:=l.foldl (λD e=>UZ D e.1 e.2) D
abbrev toS (D:Ps):Ps:=((lN (D.map Prod.fst)).filter λo=>!(vS D o).isEmpty).map λo=>(o,vS D o)
abbrev fE (D:Es)(o:ae):Option En:=D.find? λe=>decide (e.1=o)
abbrev Vl (k b:Nat)(D:Es):Prop:=∀e∈D,Ok e.2.2/\e.2.2.length<=k/\b<=e.2.1
abbrev Qy (D:Es)(p:Pl->Bool):Es:=((lN (D.map Prod.fst)).filter λo=>p (vS (sm D) o)).map λo=>(o,((fE D o).map λe=>e.2.1).getD 0,vS (sm D) o)
abbrev Ap (D:Es):Prop:=D.Pairwise λe f=>e.1≠f.1/\e.2.1≠f.2.1
structure Fil (T:jd)(d b i j:Nat)(P:Ps)(D:Es):Prop where
 dd:jO T d=some (D.map kv)
 aa:At T D
 ss:sm D=P
 vv:Vl (i * j) b D
 kk:∀e∈D,e.1≠[]
 ll:D.length<=i
 pw:Ap D
end Su
namespace Su
open Am Po PySem L2
abbrev cS (l:Ps)(o:ae)(t:Int):Int:=match l with
 | []=>0
 | e::l=>(if e.1=o then cf e.2 t else 0)+cS l o t
meta abbrev AF:Pl:=[((-1:Int),(1:Int)),((1:Int),(-1:Int))]
structure Gd (D:Ps):Prop where
 nd:(D.map Prod.fst).Nodup
 ok:∀e∈D,Ok e.2
abbrev LY (o:ae)(k:Nat):Bool:=decide (o.getD (k-1) 0>o.getD k 0)
abbrev V7 (k:Nat)(l:Ps):Ps:=l.flatMap λe=>(Wd.ex e.1 k,e.2)::(if LY e.1 k=true then[(e.1,times AF e.2)]else[])
abbrev bx (k:Nat)(l:Ps):Ps:=toS (adds [] (V7 k l))
def SI{k:Nat}{o:ae}(h1:1<=k)(h2:k<o.length):(Wd.ex o k).getD (k-1) 0=o.getD k 0/\(Wd.ex o k).getD k 0=o.getD (k-1) 0:=by
 constructor
 ·rw[aI,Wd.mX h1 h2,aM (),aN rfl,aI]
 ·rw[aI,Wd.mX h1 h2,aN rfl,aI]
end Su
namespace He
open PySem L2 Am
open Fw (Two rg EV)
open Bl (uy)
open Su (LY)
meta abbrev Fn:=ae->Int->Int
abbrev dl (g:Int->Int)(t:Int):Int:=g (t+1)-g (t-1)
abbrev X (k:Nat)(f:Fn):Fn:=λo t=>f (Wd.ex o k) t+if LY o k=true then dl (f o) t else 0
abbrev bk (o:ae):ae:=(List.range o.length).map λi:Nat=>((o.idxOf ((i:Int)+1):Nat):Int)+1
abbrev Pr (o:ae)(k j:Nat):Prop:=(o.getD (k-1) 0=j/\o.getD k 0=(j:Int)+1)\/(o.getD (k-1) 0=(j:Int)+1/\o.getD k 0=j)
abbrev L (j:Nat)(f:Fn):Fn:=λo t=>f (o.map (Wd.sw j)) t+if LY (bk o) j=true then dl (f o) t else 0
def G4{n k:Nat}{o:ae}(h:o.Perm (rg n))(h0:1<=k)(h1:k<n):(Wd.ex o k).Perm (rg n):=(Wd.vm h0 (by rw[h.length_eq,Wd.jY];exact h1)).trans h
abbrev Va (n:Nat)(w:ag):Prop:=∀k∈w,1<=k/\k<n
abbrev Xw (w:ag)(f:Fn):Fn:=w.foldl (λf k=>X k f) f
abbrev D (u:ae)(g:Int->Int):Fn:=λo t=>if o=u then g t else 0
theorem t8{n:Nat}:∀(m:Nat) {u:ae},u.Perm (rg n)->Iv.inv u=m->∃w,Wd.jN (rg n) w/\Wd.led (rg n) w=u
 | 0,u,hu,hm=>by
  refine⟨[],trivial,(Fw.IM hu λk hk=>?_).symm⟩;have:=Fw.zm hk.1 hk.2.1 hk.2.2
  lia
 | m+1,u,hu,hm=>by
  obtain⟨k,hk⟩:=Fw.LI (l:=u) ();have lu:u.length=n:=by rw[hu.length_eq,Wd.jY]
  have hd:=Fw.zm hk.1 hk.2.1 hk.2.2;obtain⟨w,h1,h2⟩:=t8 m (G4 hu hk.1 (by rw[<- lu];exact hk.2.1)) ();obtain⟨e1,e2⟩:=Su.SI (o:=u) hk.1 hk.2.1;refine⟨w++[k],Wd.jN.snoc h1 hk.1 (by rw[Wd.jY,<- lu];exact hk.2.1) (by rw[h2,e1,e2];exact hk.2.2),?_⟩;rw[Wd.EF,h2];exact Fw.JK hk.1 hk.2.1
abbrev add (f g:Fn):Fn:=λo t=>f o t+g o t
end He
namespace He
open PySem L2 Am Po
open Fw (Two rg EV)
open Su (LY Ps cS)
abbrev cv:Pl->(Int->Int)->Int->Int
 | [],_,_=>0
 | q::p,g,t=>q.2 * g (t-q.1)+cv p g t
abbrev TL (p:Pl)(f:Fn):Fn:=λo t=>cv p (f o) t
abbrev sw (n:Nat)(o:ae):ag:=by
 classical
 exact if h:o.Perm (rg n)then(t8 _ h rfl).choose else[]
def NF{n:Nat}{o:ae}(h:o.Perm (rg n)):Wd.jN (rg n) (sw n o)/\Wd.led (rg n) (sw n o)=o:=by
 unfold sw;rw[dif_pos h];exact(t8 _ h rfl).choose_spec
abbrev RG (G:ae->Fn):Ps->Fn
 | []=>λ_ _=>0
 | e::m=>add (TL e.2 (G e.1)) (RG G m)
abbrev R (n:Nat)(m:Ps)(f:Fn):Fn:=RG (λo=>Xw (sw n o) f) m
abbrev V5 (p:Pl)(l:Ps):Ps:=l.map λx=>(x.1,times p x.2)
abbrev B (f:Fn):Fn:=λo=>f (bk o)
abbrev d0:Int->Int:=λt=>if t=0 then 1 else 0
end He
namespace He
open PySem L2 Am Po
open Fw (Two rg EV)
open Su (LY Ps cS Gd vS toS adds bx)
structure Cn (l:Ps):Prop where
 gd:Gd l
 eq:toS l=l
abbrev Ur (l m:Ps):Ps:=toS (adds [] (l++m))
abbrev one (n:Nat):Ps:=[(rg n,[((0:Int),(1:Int))])]
end He
namespace He
open PySem L2 Am Po
open Fw (Two rg EV)
open Su (LY Ps cS Gd vS toS adds bx)
abbrev arr:Nat->ae->List (ae)
 | 0,_=>[[]]
 | m+1,l=>l.flatMap λx=>(arr m (l.erase x)).map (x::·)
structure FB (n P C:Nat)(f:Fn):Prop where
 c:∀o,o.Perm (rg n)->∀t,(f o t).natAbs<=C
 p:∀o,o.Perm (rg n)->∀t:Int,P<t.natAbs->f o t=0
structure PB (Q c:Nat)(p:Pl):Prop where
 c:∀q∈p,q.2.natAbs<=c
 p:∀q∈p,q.1.natAbs<=Q
theorem xg:∀{w:ag}{l:ae},Wd.jN l w->Iv.inv (Wd.led l w)=Iv.inv l+w.length
 | [],_,_=>rfl
 | k::w,l,h=>by
  have:=xg h.2.2.2;rw[Fw.zB h.1 h.2.1 h.2.2.1]at this;show Iv.inv (Wd.led (Wd.ex l k) w)=_+(w.length+1)
  lia
structure Sz (n P C:Nat)(l:Ps):Prop where
 cn:Cn l
 pm:∀x∈l,x.1.Perm (rg n)
 fb:FB n P C (cS l)
end He
namespace He
open PySem L2 Am Po
open Fw (Two rg EV)
open Su (LY Ps cS Gd vS toS adds bx)
abbrev Y (k:Nat)(f:Fn):Fn:=λo t=>X k f o t-dl (f o) t
abbrev LB:Pl:=[((-1:Int),(-1:Int)),((1:Int),(1:Int))]
abbrev VY (p:Pl)(l:Ps):Ps:=toS (adds [] (V5 p l))
abbrev yb (k:Nat)(l:Ps):Ps:=Ur (bx k l) (VY LB l)
abbrev V4 (w:ag)(l:Ps):Ps:=w.foldl (λl k=>yb k l) l
abbrev tO (n:Nat)(w:ag):Ps:=V4 w (one n)
structure Fwd (n:Nat)(W:ae->ag):Prop where
 r:∀o,o.Perm (rg n)->Wd.jN (rg n) (W o)
 e:∀o,o.Perm (rg n)->Wd.led (rg n) (W o)=o
end He
namespace He
open PySem L2 Am Po
open Fw (Two rg EV Dn)
open Su (LY Ps cS Gd vS toS adds bx)
end He
namespace Eu
open PySem L2 Bl Am
open Wd (ex led jN)
open Fw (rg)
def GB{n k:Nat}{v z:ae}(pv:v.Perm (rg n))(pz:z.Perm (rg n))(h0:1<=k)(h:k<n)(hr:v.getD (k-1) 0<v.getD k 0):Below z (ex v k) ↔ Below z v\/(z.getD k 0<z.getD (k-1) 0/\Below (ex z k) v):=by
 have pe:=QD pv h0 h;have le:k<(ex v k).length:=by rw[ln pe];exact h
 have lz:z.length=(ex v k).length:=by rw[ln pe,ln pz]
 have hf:(ex v k).getD k 0<(ex v k).getD (k-1) 0:=by rw[hi pv h0 h,lo pv h0 h];exact hr
 have ee:=PZ pv h0 h;constructor
 ·intro b;by_cases c:z.getD (k-1) 0<=z.getD k 0
  ·have:=low lz h0 le hf c b;rw[ee]at this;exact .inl this
  ·have:=UA lz h0 le hf () b;rw[ee]at this;exact .inr ⟨(),this⟩
 ·rintro(b|⟨_,b⟩)
  ·exact b.trans (VU pv h0 h hr)
  ·have:=VN (QD pz h0 h) pv h0 h hr b;rw[PZ pz h0 h]at this;exact this
structure Lo (n:Nat)(a:ae)(ks:List (ae)):Prop where
 nd:ks.Nodup
 mm:∀z,z∈ks ↔ z.Perm (rg n)/\Below z a
end Eu
namespace Pa
open PySem L2 Bl Am
open Fw (rg)
open Eu (inj Lo)
abbrev B:List Bool->Nat
 | []=>0
 | b::bs=>2 * B bs+(bif b then 1 else 0)
theorem AH:∀(bs:List Bool) (i:Nat),(B bs).testBit i=bs.getD i false
 | [],i=>by simp[B]
 | b::bs,0=>by
  rw[Nat.testBit_zero];show decide ((2 * B bs+_) % 2=1)=b
  cases b<;>simp<;>lia
 | b::bs,i+1=>by
  rw[Nat.testBit_succ];have:(2 * B bs+(bif b then 1 else 0)) / 2=B bs:=by cases b<;>simp<;>lia
  show((2 * B bs+(bif b then 1 else 0)) / 2).testBit i=_;rw[this,AH bs i];rfl
def UH{bs cs:List Bool}:Nat.beq (Nat.land (B bs) (B cs)) (B bs)=true ↔ ∀i,bs.getD i false=true->cs.getD i false=true:=by
 rw[beq_eq];constructor
 ·intro h i hb;have this:Nat.testBit (Nat.land (B bs) (B cs)) i=Nat.testBit (B bs) i:=dM (λx=>Nat.testBit x i) h;rw[show Nat.land (B bs) (B cs)=(B bs &&& B cs)from rfl,Nat.testBit_and,AH,AH,hb,gM]at this;exact this
 ·intro h;refine Nat.eq_of_testBit_eq λi=>?_;rw[show Nat.land (B bs) (B cs)=(B bs &&& B cs)from rfl,Nat.testBit_and,AH,AH]
  cases e:bs.getD i false with
  | false=>rfl
  | true=>rw[h i e];rfl
abbrev ge (j:Nat)(x:Int):Nat:=match x with
 | .ofNat m=>bif Nat.ble j m then 1 else 0
 | _=>0
abbrev cn:ae->Nat->Nat
 | [],_=>0
 | x::xs,j=>ge j x+cn xs j
theorem vI(j:Nat):∀{xs:ae},(∀x∈xs,0<=x)->(cn xs j:Int)=cnt xs (j:Int)
 | [],_=>rfl
 | x::xs,h=>by
  show((ge j x+cn xs j:Nat):Int)=(if (j:Int)<=x then 1 else 0)+cnt xs j;rw[Int.natCast_add,vI j λy hy=>h y (aV _ hy)];congr 1;obtain⟨m,rfl⟩:=Int.eq_ofNat_of_zero_le (h x (aW ..));show((bif Nat.ble j m then 1 else 0:Nat):Int)=_;by_cases c:j<=m
  ·rw[ble_eq.mpr c,aN ()];rfl
  ·rw[show Nat.ble j m=false from iC.mpr λz=>c (ble_eq.mp z),aM ()];rfl
theorem MB:∀(xs:ae) (j:Nat),cn xs j<=xs.length
 | [],_=>aP _
 | x::xs,j=>by
  have:=MB xs j;have g:ge j x<=1:=by
   unfold ge;split
   ·cases Nat.ble j _<;>decide
   ·decide
  show ge j x+cn xs j<=xs.length+1
  lia
abbrev Rk (n:Nat)(z:ae):List Bool:=(List.range (n * n * n)).map λt=>Nat.blt (t % n) (cn (z.take (t / n / n+1)) (t / n % n+1))
abbrev U (n:Nat)(z:ae):Nat:=B (Rk n z)
def zg{n t:Nat}{z:ae}(h:t<n * n * n):(Rk n z).getD t false=Nat.blt (t % n) (cn (z.take (t / n / n+1)) (t / n % n+1)):=by
 unfold Rk;rw[aI,aT,bR h];rfl
def VO{n q:Nat}(hi:i<n)(hq:q<n)(hb:b<n):((i * n+q) * n+b) % n=b/\((i * n+q) * n+b) / n / n=i/\((i * n+q) * n+b) / n % n=q/\(i * n+q) * n+b<n * n * n:=by
 have n0:0<n:=()
 have e1:((i * n+q) * n+b) / n=i * n+q:=by rw[fu,Nat.add_mul_div_right _ _ n0,iI hb,dF]
 refine⟨by rw[fu,iw,iJ hb],?_,?_,?_⟩
 ·rw[e1,fu,Nat.add_mul_div_right _ _ n0,iI hq,dF]
 ·rw[e1,fu,iw,iJ hq]
 ·have h1:i * n+q+1<=n * n:=by
   have:(i+1) * n<=n * n:=fq _ hi;rw[iY]at this
   lia
  have h2:=fq n h1;rw[iY]at h2
  lia
def RM{n:Nat}{x y:ae}(px:x.Perm (rg n))(py:y.Perm (rg n)):Nat.beq (Nat.land (U n x) (U n y)) (U n x)=true ↔ Below x y:=by
 have hx:∀v∈x,0<=v:=λv hv=>by have:=lg.mp (px.mem_iff.mp hv);lia
 have hy:∀v∈y,0<=v:=λv hv=>by have:=lg.mp (py.mem_iff.mp hv);lia
 unfold U;rw[UH,<- Bl.x_ px py];constructor
 ·intro h i q hi hq;rw[show(q:Int)+1=((q+1:Nat):Int)by lia,<- vI _ λv hv=>hx v (bK hv),<- vI _ λv hv=>hy v (bK hv)];refine Int.ofNat_le.mpr (Nat.le_of_not_lt λc=>?_);have hl:=MB (x.take (i+1)) (q+1);rw[bw,Eu.ln px]at hl;obtain⟨b,hb⟩:∃b,b=cn (y.take (i+1)) (q+1):=⟨_,rfl⟩;rw[<- hb]at c;have bn:b<n:=()
  obtain⟨t1,t2,t3,t4⟩:=VO hi hq bn;have:=h ((i * n+q) * n+b) (by rw[zg t4,t1,t2,t3];exact blt_eq.mpr c);rw[zg t4,t1,t2,t3,<- hb,blt_eq]at this;exact d9 _ this
 ·intro h t ht;by_cases c:t<n * n * n
  ·rw[zg c,blt_eq]at ht ⊢;have n0:0<n:=Nat.pos_of_ne_zero λz=>by rw[z]at c;simp at c
   have h1:t / n / n<n:=by rw[Nat.div_div_eq_div_mul];exact Nat.div_lt_of_lt_mul (by rw[fB];rw[Nat.mul_assoc]at c;rw[fB n (n * n)]at c;rw[fB];exact c)
   have:=h (t / n / n) (t / n % n) h1 (Nat.mod_lt _ n0);rw[show((t / n % n:Nat):Int)+1=((t / n % n+1:Nat):Int)by lia,<- vI _ λv hv=>hx v (bK hv),<- vI _ λv hv=>hy v (bK hv)]at this;have:=Int.ofNat_le.mp this
   lia
  ·have:(Rk n x).getD t false=false:=by
    unfold Rk;rw[aI,bC (by simpa using c)];rfl
   rw[this]at ht;cases ht
abbrev val:ag->Nat
 | []=>0
 | c::cs=>c+1024 * val cs
theorem val_inj:∀{a b:ag},a.length=b.length->(∀x∈a,x<1024)->(∀x∈b,x<1024)->val a=val b->a=b
 | [],[],_,_,_,_=>rfl
 | [],_::_,h,_,_,_=>by simp at h
 | _::_,[],h,_,_,_=>by simp at h
 | x::a,y::b,h,ha,hb,e=>by
  have e:x+1024 * val a=y+1024 * val b:=e;have h1:=ha x (aW ..);have h2:=hb y (aW ..);have e1:x=y:=()
  have e2:val a=val b:=()
  rw[e1,val_inj (by simpa using h) (λz hz=>ha z (aV _ hz)) (λz hz=>hb z (aV _ hz)) e2]
theorem yv:∀{cs:ag}{i x:Nat},cs[i]?=some x->val (cs.set i (x+1))=val cs+1024 ^ i
 | [],i,x,h=>by simp at h
 | c::cs,0,x,h=>by
  have:c=x:=by simpa using h
  subst this;show c+1+1024 * val cs=c+1024 * val cs+1
  lia
 | c::cs,i+1,x,h=>by
  have:=yv (cs:=cs) (i:=i) (x:=x) (by simpa using h);show c+1024 * val (cs.set i (x+1))=c+1024 * val cs+1024 ^ (i+1);rw[this,Nat.mul_add,Nat.pow_succ,fB (1024 ^ i)]
  lia
abbrev ct (m:Nat)(ls:ag):ag:=(List.range (m+1)).map λj=>ls.countP λl=>l == j
def nu(m:Nat)(ls:ag):(ct m ls).length=m+1:=by unfold ct;simp
def Bp{j:Nat}{ls:ag}(h:j<=m):(ct m ls)[j]?=some (ls.countP λl=>l == j):=by
 unfold ct;rw[aT,bR ()];rfl
def LX{ls:ag}(h:l<=m):ct m (l::ls)=(ct m ls).set l ((ls.countP λx=>x == l)+1):=by
 refine b_ λj=>?_;by_cases hj:j<=m
 ·rw[Bp hj,d8,nu,b7];by_cases e:l=j
  ·subst e;rw[aN (show(l == l)=true by simp),aN rfl,aN ()]
  ·rw[aM (show ¬(l == j)=true by simpa using e),aM e,Bp hj];rfl
 ·rw[bC (by rw[nu];lia),bC (by rw[bG,nu];lia)]
theorem J0:∀{ls:ag},(∀l∈ls,l<=m)->val (ct m ls)=(ls.map λl=>1024 ^ l).sum/\val (ct m ls).reverse=(ls.map λl=>1024 ^ (m-l)).sum
 | [],_=>by
  have h0:∀k,val (List.replicate k 0)=0:=λk=>by
   induction k with
   | zero=>rfl
   | succ k ih=>show 0+1024 * val (List.replicate k 0)=0;rw[ih]
  have e:ct m []=List.replicate (m+1) 0:=by
   unfold ct;refine List.eq_replicate_iff.mpr ⟨by simp,λx hx=>?_⟩;obtain⟨q,_,rfl⟩:=bA.mp hx;rfl
  rw[e,List.reverse_replicate,h0];exact⟨rfl,rfl⟩
 | l::ls,h=>by
  have hl:=h l (aW ..);obtain⟨h1,h2⟩:=J0 (ls:=ls) λx hx=>h x (aV _ hx);have g:=Bp (ls:=ls) hl;rw[LX hl];refine⟨by rw[yv g,h1,bX,eg,fu],?_⟩;have gr:(ct m ls).reverse[m-l]?=some (ls.countP λx=>x == l):=by
   rw[gD (by rw[nu];lia),nu,show m+1-1-(m-l)=l by lia];exact g
  have es:((ct m ls).set l ((ls.countP λx=>x == l)+1)).reverse=(ct m ls).reverse.set (m-l) ((ls.countP λx=>x == l)+1):=by
   refine b_ λj=>?_;by_cases hj:j<=m
   ·rw[gD (by rw[bG,nu];lia),bG,nu,d8,d8,gD (by rw[nu];lia),nu,c9,nu];by_cases e:m-l=j
    ·rw[aN (),aN (),aN e,aN ()]
    ·rw[aM (),aM e]
   ·rw[bC (by rw[c9,bG,nu];lia),bC (by rw[bG,c9,nu];lia)]
  rw[es,yv gr,h2,bX,eg,fu]
meta abbrev Tb:=List (Nat×Nat×Bool)
abbrev sm (u:Nat)(f:Nat->Nat):Tb->Nat
 | []=>0
 | e::tb=>(bif Nat.beq (Nat.land e.1 u) e.1 then Nat.pow 1024 (f e.2.1)else 0)+sm u f tb
abbrev one (tb:Tb)(e:Nat×Nat×Bool):Bool:=Nat.beq (sm e.1 (λl=>l) tb) (sm e.1 (λl=>e.2.1-l) tb) != e.2.2
abbrev hit (a b c d:Int):Bool:=(decide (c<d) && decide (d<a) && decide (a<b)) || (decide (d<b) && decide (b<c) && decide (c<a))
abbrev hasB (z:ae):Bool:=(List.range z.length).any λm=>(List.range m).any λk=>(List.range k).any λj=>(List.range j).any λi=>hit (z.getD i 0) (z.getD j 0) (z.getD k 0) (z.getD m 0)
def C2{z:ae}:hasB z=true ↔ ∃i j k m:Nat,i<j/\j<k/\k<m/\m<z.length/\Fo.P (z.getD i 0) (z.getD j 0) (z.getD k 0) (z.getD m 0):=by
 unfold hasB hit Fo.P;dsimp[gH,cO,iQ,c6,iB];constructor
 ·rintro⟨m,h1,k,h2,j,h3,i,h4,h⟩;exact⟨i,j,k,m,h4,h3,h2,h1,by simpa only [and_assoc]using h⟩
 ·rintro⟨i,j,k,m,h4,h3,h2,h1,h⟩;exact⟨m,h1,k,h2,j,h3,i,h4,by simpa only [and_assoc]using h⟩
abbrev Qp (n:Nat)(z:ae):Nat×Nat×Bool:=(U n z,Iv.inv z,hasB z)
abbrev tab (n:Nat):Tb:=(inj n n).map (Qp n)
theorem Ig{n:Nat}{a:ae}(pa:a.Perm (rg n))(f:Nat->Nat)(q:ae->Bool)(hq:∀z,z.Perm (rg n)->(q z=true ↔ Below z a)):∀(zs:List (ae)),(∀z∈zs,z.Perm (rg n))->sm (U n a) f (zs.map (Qp n))=(((zs.filter q).map Iv.inv).map λl=>1024 ^ f l).sum
 | [],_=>rfl
 | z::zs,h=>by
  have pz:=h z (aW ..);show(bif Nat.beq (Nat.land (U n z) (U n a)) (U n z)then Nat.pow 1024 (f (Iv.inv z))else 0)+sm (U n a) f (zs.map (Qp n))=_;rw[Ig pa f q hq zs λy hy=>h y (aV _ hy),gG];by_cases c:Below z a
  ·rw[(RM pz pa).mpr c,aN ((hq z pz).mpr c)];rfl
  ·rw[show Nat.beq (Nat.land (U n z) (U n a)) (U n z)=false from iC.mpr λw=>c ((RM pz pa).mp w),aM λw=>c ((hq z pz).mp w)];exact dF _
def Lz{n:Nat}(hn:n<=6):(inj n n).length<1024:=by
 match n,hn with
 | 0,_|1,_|2,_|3,_|4,_|5,_|6,_=>decide +kernel
def VP{n:Nat}{a:ae}(hn:n<=6)(pa:a.Perm (rg n))(ok:one (tab n) (Qp n a)=true)(q:ae->Bool)(hq:∀z,z.Perm (rg n)->(q z=true ↔ Below z a)) :
  (ct (Iv.inv a) (((inj n n).filter q).map Iv.inv)=(ct (Iv.inv a) (((inj n n).filter q).map Iv.inv)).reverse) ↔ hasB a=false:=by
 have hp:∀z∈inj n n,z.Perm (rg n):=λz hz=>Eu.qT.mp hz;have hm:∀l∈((inj n n).filter q).map Iv.inv,l<=Iv.inv a:=λl hl=>by
  obtain⟨z,hz,rfl⟩:=bA.mp hl;obtain⟨h1,h2⟩:=bO.mp hz;exact(Eu.mono pa _ z rfl (hp z h1) ((hq z (hp z h1)).mp h2)).1
 obtain⟨v1,v2⟩:=J0 hm;have s1:=Ig pa (λl=>l) q hq (inj n n) hp;have s2:=Ig pa (λl=>Iv.inv a-l) q hq (inj n n) hp;have ok:(Nat.beq (sm (U n a) (λl=>l) (tab n)) (sm (U n a) (λl=>Iv.inv a-l) (tab n)) != hasB a)=true:=ok;unfold tab at ok;rw[s1,s2,<- v1,<- v2]at ok;have lt:∀x∈ct (Iv.inv a) (((inj n n).filter q).map Iv.inv),x<1024:=λx hx=>by
  unfold ct at hx;obtain⟨j,_,rfl⟩:=bA.mp hx;refine Nat.lt_of_le_of_lt (List.countP_le_length) ?_;rw[aK];exact Nat.lt_of_le_of_lt (dg _ _) (Lz hn)
 have key:ct (Iv.inv a) (((inj n n).filter q).map Iv.inv)=(ct (Iv.inv a) (((inj n n).filter q).map Iv.inv)).reverse ↔ Nat.beq (val (ct (Iv.inv a) (((inj n n).filter q).map Iv.inv))) (val (ct (Iv.inv a) (((inj n n).filter q).map Iv.inv)).reverse)=true:=by
  rw[beq_eq];exact⟨λh=>by rw[<- h],λh=>val_inj (by rw[c9]) lt (λx hx=>lt x (List.mem_reverse.mp hx)) h⟩
 rw[key];generalize Nat.beq _ _=b1 at ok;revert ok
 cases b1<;>cases hasB a<;>simp
end Pa
namespace Pa
open PySem L2 Bl Am
open Fw (rg)
open Wd (ex led jN)
open Eu (inj Lo)
abbrev T6:Tb:=[(1725547018567886104994941988233516679000032575982143025782456321,0,false),(1725547018591831347820971501645365851299256156976185824566575105,1,false),(1725547018567886104994947432751387414015447989975861934073839617,1,false),(1725547018592579636659290368457356872949022307875968570319962113,2,false),(1725547018591831347821325395306963627301258066567914863506489345,2,false),(1725547018592579636659638817601083913935608803473978700968493057,3,false),(1725547018567886104994941988233516680237972615267523300681580545,1,false),(1725547018591831347820971501645365852537196196261566099465699329,2,false),(1725547018567886104994947602892570875722619760948545924857069569,2,false),(1725547018592603020685487833045231593613517539376967056023879681,3,false),(1725547018591831347821325565448147089008429837540598854289719297,3,false),(1725547018592603020685836282188958634600104034974977186672410625,4,false),(1725547018567886104994947432751387494481550543525579802516914177,2,false),(1725547018592579636659290368457356953415124861425686438763036673,3,false),(1725547018567886104994947602892570954950782275212883518401019905,3,false),(1725547018592603020685487833045231672841680053641304649567830017,4,false),(1725547018592579636659649876778008924901773916698438101878439937,4,true),(1725547018592603020685847171224700183859097377226752596799127553,5,false),(1725547018591831347821325395306968778369761533035238718762385409,3,false),(1725547018592579636659638817601089065004112269941302556224389121,4,false),(1725547018591831347821325565448152238838993264722542434646491137,4,false),(1725547018592603020685836282188963784430667462156920767029182465,5,true),(1725547018592579636659649876778013995504174829616044088691261441,5,false),(1725547018592603020685847171224705254461498290144358583611949057,6,false),(1725547018567886104994941988233516679000032575982424500759166977,1,false),(1725547018591831347820971501645365851299256156976467299543285761,2,false),(1725547018567886104994947432751387414015447989976143409050550273,2,false),(1725547018592579636659290368457356872949022307876250045296672769,3,false),(1725547018591831347821325395306963627301258066568196338483200001,3,false),(1725547018592579636659638817601083913935608803474260175945203713,4,false),(1725547018567886104994941988233516680276658241495472909248888833,2,false),(1725547018591831347820971501645365852575881822489515708033007617,3,false),(1725547018567886104994947608209482858900968878791723774545756161,3,false),(1725547018592603751436306503813602678634283015361654733678837761,4,false),(1725547018591831347821325570765059072186778955383776703978405889,4,false),(1725547018592603751436654952957329719620869510959664864327368705,5,false),(1725547018567886104994947432751387494520236169753529411084222465,3,false),(1725547018592579636659290368457356953453810487653636047330344961,4,false),(1725547018567886104994947608209482938129131393056061368089706497,4,false),(1725547018592603751436306503813602757862445529625992327222788097,5,false),(1725547018592579636659649882094920908080123034541615951567126529,5,true),(1725547018592603751436665841993071268879862853211440274454085633,6,false),(1725547018591831347821325395306968778408447159263188327329693697,4,false),(1725547018592579636659638817601089065042797896169252164791697409,5,false),(1725547018591831347821325570765064222017342382565720284335177729,5,false),(1725547018592603751436654952957334869451432938141608444684140545,6,true),(1725547018592579636659649882094925978682523947459221938379948033,6,false),(1725547018592603751436665841993076339482263766129046261266907137,7,false),(1725547018567886104994941988233516680237972615285819174167773185,2,false),(1725547018591831347820971501645365852537196196279861972951891969,3,false),(1725547018567886104994947602892570875722619760966841798343262209,3,false),(1725547018592603020685487833045231593613517539395262929510072321,4,false),(1725547018591831347821325565448147089008429837558894727775911937,4,false),(1725547018592603020685836282188958634600104034993273060158603265,5,false),(1725547018567886104994941988233516680276658241513487307758370817,3,false),(1725547018591831347820971501645365852575881822507530106542489601,4,false),(1725547018567886104994947608209482858900968878809738173055238145,4,false),(1725547018592603751436306503813602678634283015379669132188319745,5,false),(1725547018591831347821325570765059072186778955401791102487887873,5,false),(1725547018592603751436654952957329719620869510977679262836850689,6,false),(1725547018567886104994947602892570957465347980029608075276058625,4,true),(1725547018592603020685487833045231675356245758458029206442868737,5,true),(1725547018567886104994947608209482940605011471644836316397436929,5,false),(1725547018592603751436306503813602760338325608214767275530518529,6,false),(1725547018592603020685847516823979090451790037033312826563756033,6,true),(1725547018592603751436666182275438192294206395174822654530027521,7,false),(1725547018591831347821325565448152241353558969539266991521529857,5,true),(1725547018592603020685836282188963786945233166973645323904221185,6,true),(1725547018591831347821325570765064224493222461154495232642908161,6,false),(1725547018592603751436654952957334871927313016730383392991870977,7,true),(1725547018592603020685847516823984161054190949950918813376577537,7,true),(1725547018592603751436666182275443262896607308092428641342849025,8,false),(1725547018567886104994947432751387494481550544696797180609953793,3,false),(1725547018592579636659290368457356953415124862596903816856076289,4,false),(1725547018567886104994947602892570954950782276384100896494059521,4,false),(1725547018592603020685487833045231672841680054812522027660869633,5,false),(1725547018592579636659649876778008924901773917869655479971479553,5,true),(1725547018592603020685847171224700183859097378397969974892167169,6,false),(1725547018567886104994947432751387494520236170924465314200551425,4,false),(1725547018592579636659290368457356953453810488824571950446673921,5,false),(1725547018567886104994947608209482938129131394226997271206035457,5,true),(1725547018592603751436306503813602757862445530796928230339117057,6,true),(1725547018592579636659649882094920908080123035712551854683455489,6,true),(1725547018592603751436665841993071268879862854382376177570414593,7,true),(1725547018567886104994947602892570957465347981182529579882905601,5,false),(1725547018592603020685487833045231675356245759610950711049715713,6,false),(1725547018567886104994947608209482940605011472797757821004283905,6,false),(1725547018592603751436306503813602760338325609367688780137365505,7,false),(1725547018592603020685847516823979090451790038186234331170603009,7,true),(1725547018592603751436666182275438192294206396327744159136874497,8,false),(1725547018592579636659649876778014156475065564114365337261047809,6,true),(1725547018592603020685847171224705415432389024642679832181735425,7,true),(1725547018592579636659649882094926139614729055729593578382426113,7,true),(1725547018592603751436665841993076500414468874399417901269385217,8,true),(1725547018592603020685847516823984319510515979632515505071325185,8,true),(1725547018592603751436666182275443421352932337774025333037596673,9,false),(1725547018591831347821325395306968778369761607993432391693631489,4,false),(1725547018592579636659638817601089065004112344899496229155635201,5,false),(1725547018591831347821325565448152238838993339680736107577737217,5,false),(1725547018592603020685836282188963784430667537115114439960428545,6,true),(1725547018592579636659649876778013995504174904574237761622507521,6,false),(1725547018592603020685847171224705254461498365102552256543195137,7,false),(1725547018591831347821325395306968778408447234221100525284229121,5,false),(1725547018592579636659638817601089065042797971127164362746232833,6,false),(1725547018591831347821325570765064222017342457523632482289713153,6,true),(1725547018592603751436654952957334869451433013099520642638675969,7,true),(1725547018592579636659649882094925978682524022417134136334483457,7,true),(1725547018592603751436665841993076339482263841086958459221442561,8,true),(1725547018591831347821325565448152241353559044479164790966583297,6,false),(1725547018592603020685836282188963786945233241913543123349274625,7,true),(1725547018591831347821325570765064224493222536094393032087961601,7,false),(1725547018592603751436654952957334871927313091670281192436924417,8,true),(1725547018592603020685847516823984161054191024890816612821630977,8,true),(1725547018592603751436666182275443262896607383032326440787902465,9,true),(1725547018592579636659649876778014156475065637901341632099254273,7,false),(1725547018592603020685847171224705415432389098429656127019941889,8,false),(1725547018592579636659649882094926139614729129516569873220632577,8,false),(1725547018592603751436665841993076500414468948186394196107591681,9,true),(1725547018592603020685847516823984319510516053419491799909531649,9,false),(1725547018592603751436666182275443421352932411561001627875803137,10,false),(1725547018567886104994941988233516679000032575982143025782456385,1,false),(1725547018591831347820971501645365851299256156976185824566575169,2,false),(1725547018567886104994947432751387414015447989975861934073839681,2,false),(1725547018592579636659290368457356872949022307875968570319962177,3,false),(1725547018591831347821325395306963627301258066567914863506489409,3,false),(1725547018592579636659638817601083913935608803473978700968493121,4,false),(1725547018567886104994941988233516680237972615267523300681580609,2,false),(1725547018591831347820971501645365852537196196261566099465699393,3,false),(1725547018567886104994947602892570875722619760948545924857069633,3,false),(1725547018592603020685487833045231593613517539376967056023879745,4,false),(1725547018591831347821325565448147089008429837540598854289719361,4,false),(1725547018592603020685836282188958634600104034974977186672410689,5,false),(1725547018567886104994947432751387494481550543525579802516914241,3,false),(1725547018592579636659290368457356953415124861425686438763036737,4,false),(1725547018567886104994947602892570954950782275212883518401019969,4,false),(1725547018592603020685487833045231672841680053641304649567830081,5,false),(1725547018592579636659649876778008924901773916698438101878440001,5,true),(1725547018592603020685847171224700183859097377226752596799127617,6,false),(1725547018591831347821325395306968778369761533035238718762385473,4,false),(1725547018592579636659638817601089065004112269941302556224389185,5,false),(1725547018591831347821325565448152238838993264722542434646491201,5,false),(1725547018592603020685836282188963784430667462156920767029182529,6,true),(1725547018592579636659649876778013995504174829616044088691261505,6,false),(1725547018592603020685847171224705254461498290144358583611949121,7,false),(1725547018567886104994941988233516679000032575982433296852189249,2,false),(1725547018591831347820971501645365851299256156976476095636308033,3,false),(1725547018567886104994947432751387414015447989976152205143572545,3,false),(1725547018592579636659290368457356872949022307876258841389695041,4,false),(1725547018591831347821325395306963627301258066568205134576222273,4,false),(1725547018592579636659638817601083913935608803474268972038225985,5,false),(1725547018567886104994941988233516680277867167315096334516617281,3,false),(1725547018591831347820971501645365852577090748309139133300736065,4,false),(1725547018567886104994947608375636358375292288724323082348527681,4,false),(1725547018592603774272269587275114275041181936486176223605555265,5,false),(1725547018591831347821325570931212571661102365316376011781177409,5,false),(1725547018592603774272618036418841316027768432084186354254086209,6,false),(1725547018567886104994947432751387494521445095573152836351950913,4,false),(1725547018592579636659290368457356953455019413473259472598073409,5,false),(1725547018567886104994947608375636437603454802988660675892478017,5,false),(1725547018592603774272269587275114354269344450750513817149505601,6,false),(1725547018592579636659649882261074407554446444474215259369898049,6,true),(1725547018592603774272628925454582865286761774335961764380803137,7,false),(1725547018591831347821325395306968778409656085082811752597422145,5,false),(1725547018592579636659638817601089065044006821988875590059425857,6,false),(1725547018591831347821325570931217721491665792498319592137949249,6,false),(1725547018592603774272618036418846465858331859266129934610858049,7,true),(1725547018592579636659649882261079478156847357391821246182719553,7,false),(1725547018592603774272628925454587935889162687253567751193624641,8,false),(1725547018567886104994941988233516680237972615285827970260795457,3,false),(1725547018591831347820971501645365852537196196279870769044914241,4,false),(1725547018567886104994947602892570875722619760966850594436284481,4,false),(1725547018592603020685487833045231593613517539395271725603094593,5,false),(1725547018591831347821325565448147089008429837558903523868934209,5,false),(1725547018592603020685836282188958634600104034993281856251625537,6,false),(1725547018567886104994941988233516680277867167333110733026099265,4,false),(1725547018591831347820971501645365852577090748327153531810218049,5,false),(1725547018567886104994947608375636358375292288742337480858009665,5,false),(1725547018592603774272269587275114275041181936504190622115037249,6,false),(1725547018591831347821325570931212571661102365334390410290659393,6,false),(1725547018592603774272618036418841316027768432102200752763568193,7,false),(1725547018567886104994947602892570957466556905849231500543787073,5,true),(1725547018592603020685487833045231675357454684277652631710597185,6,true),(1725547018567886104994947608375636440079334881577435624200208449,6,false),(1725547018592603774272269587275114356745224529339288765457236033,7,false),(1725547018592603020685847516990132589926113446965912134366527553,7,true),(1725547018592603774272629265736949788701105316299344144456745025,8,false),(1725547018591831347821325565448152241354767895358890416789258305,6,true),(1725547018592603020685836282188963786946442092793268749171949633,7,true),(1725547018591831347821325570931217723967545871087094540445679681,7,false),(1725547018592603774272618036418846468334211937854904882918588481,8,true),(1725547018592603020685847516990137660528514359883518121179349057,8,true),(1725547018592603774272629265736954859303506229216950131269566529,9,false),(1725547018567886104994947432751387494481550544696805976702976065,4,false),(1725547018592579636659290368457356953415124862596912612949098561,5,false),(1725547018567886104994947602892570954950782276384109692587081793,5,false),(1725547018592603020685487833045231672841680054812530823753891905,6,false),(1725547018592579636659649876778008924901773917869664276064501825,6,true),(1725547018592603020685847171224700183859097378397978770985189441,7,false),(1725547018567886104994947432751387494521445096744088739468279873,5,false),(1725547018592579636659290368457356953455019414644195375714402369,6,false),(1725547018567886104994947608375636437603454804159596579008806977,6,true),(1725547018592603774272269587275114354269344451921449720265834561,7,true),(1725547018592579636659649882261074407554446445645151162486227009,7,true),(1725547018592603774272628925454582865286761775506897667497132097,8,true),(1725547018567886104994947602892570957466556907002153005150634049,6,false),(1725547018592603020685487833045231675357454685430574136317444161,7,false),(1725547018567886104994947608375636440079334882730357128807055425,7,false),(1725547018592603774272269587275114356745224530492210270064083009,8,false),(1725547018592603020685847516990132589926113448118833638973374529,8,true),(1725547018592603774272629265736949788701105317452265649063592001,9,false),(1725547018592579636659649876778014156476274489933988762528776257,7,true),(1725547018592603020685847171224705415433597950462303257449463873,8,true),(1725547018592579636659649882261079639089052465662192886185197633,8,true),(1725547018592603774272628925454588096821367795523939391196102721,9,true),(1725547018592603020685847516990137818984839389565114812874096705,9,true),(1725547018592603774272629265736955017759831258898546822964314177,10,false),(1725547018591831347821325395306968778369761607993441187786653761,5,false),(1725547018592579636659638817601089065004112344899505025248657473,6,false),(1725547018591831347821325565448152238838993339680744903670759489,6,false),(1725547018592603020685836282188963784430667537115123236053450817,7,true),(1725547018592579636659649876778013995504174904574246557715529793,7,false),(1725547018592603020685847171224705254461498365102561052636217409,8,false),(1725547018591831347821325395306968778409656160040723950551957569,6,false),(1725547018592579636659638817601089065044006896946787788013961281,7,false),(1725547018591831347821325570931217721491665867456231790092484673,7,true),(1725547018592603774272618036418846465858331934224042132565393473,8,true),(1725547018592579636659649882261079478156847432349733444137254977,8,true),(1725547018592603774272628925454587935889162762211479949148160065,9,true),(1725547018591831347821325565448152241354767970298788216234311745,7,false),(1725547018592603020685836282188963786946442167733166548617003073,8,true),(1725547018591831347821325570931217723967545946026992339890733121,8,false),(1725547018592603774272618036418846468334212012794802682363641921,9,true),(1725547018592603020685847516990137660528514434823415920624402497,9,true),(1725547018592603774272629265736954859303506304156847930714619969,10,true),(1725547018592579636659649876778014156476274563720965057366982721,8,false),(1725547018592603020685847171224705415433598024249279552287670337,9,false),(1725547018592579636659649882261079639089052539449169181023404097,9,false),(1725547018592603774272628925454588096821367869310915686034309185,10,true),(1725547018592603020685847516990137818984839463352091107712303169,10,false),(1725547018592603774272629265736955017759831332685523117802520641,11,false),(1725547018567886104994941988233516679000032575982424500759171137,2,false),(1725547018591831347820971501645365851299256156976467299543289921,3,false),(1725547018567886104994947432751387414015447989976143409050554433,3,false),(1725547018592579636659290368457356872949022307876250045296676929,4,false),(1725547018591831347821325395306963627301258066568196338483204161,4,false),(1725547018592579636659638817601083913935608803474260175945207873,5,false),(1725547018567886104994941988233516680276658241495472909248892993,3,false),(1725547018591831347820971501645365852575881822489515708033011777,4,false),(1725547018567886104994947608209482858900968878791723774545760321,4,false),(1725547018592603751436306503813602678634283015361654733678841921,5,false),(1725547018591831347821325570765059072186778955383776703978410049,5,false),(1725547018592603751436654952957329719620869510959664864327372865,6,false),(1725547018567886104994947432751387494520236169753529411084226625,4,false),(1725547018592579636659290368457356953453810487653636047330349121,5,false),(1725547018567886104994947608209482938129131393056061368089710657,5,false),(1725547018592603751436306503813602757862445529625992327222792257,6,false),(1725547018592579636659649882094920908080123034541615951567130689,6,true),(1725547018592603751436665841993071268879862853211440274454089793,7,false),(1725547018591831347821325395306968778408447159263188327329697857,5,false),(1725547018592579636659638817601089065042797896169252164791701569,6,false),(1725547018591831347821325570765064222017342382565720284335181889,6,false),(1725547018592603751436654952957334869451432938141608444684144705,7,true),(1725547018592579636659649882094925978682523947459221938379952193,7,false),(1725547018592603751436665841993076339482263766129046261266911297,8,false),(1725547018567886104994941988233516679000032575982433296852193345,3,false),(1725547018591831347820971501645365851299256156976476095636312129,4,false),(1725547018567886104994947432751387414015447989976152205143576641,4,false),(1725547018592579636659290368457356872949022307876258841389699137,5,false),(1725547018591831347821325395306963627301258066568205134576226369,5,false),(1725547018592579636659638817601083913935608803474268972038230081,6,false),(1725547018567886104994941988233516680277867167315096334516621377,4,false),(1725547018591831347820971501645365852577090748309139133300740161,5,false),(1725547018567886104994947608375636358375292288724323082348531777,5,false),(1725547018592603774272269587275114275041181936486176223605559361,6,false),(1725547018591831347821325570931212571661102365316376011781181505,6,false),(1725547018592603774272618036418841316027768432084186354254090305,7,false),(1725547018567886104994947432751387494521445095573152836351955009,5,false),(1725547018592579636659290368457356953455019413473259472598077505,6,false),(1725547018567886104994947608375636437603454802988660675892482113,6,false),(1725547018592603774272269587275114354269344450750513817149509697,7,false),(1725547018592579636659649882261074407554446444474215259369902145,7,true),(1725547018592603774272628925454582865286761774335961764380807233,8,false),(1725547018591831347821325395306968778409656085082811752597426241,6,false),(1725547018592579636659638817601089065044006821988875590059429953,7,false),(1725547018591831347821325570931217721491665792498319592137953345,7,false),(1725547018592603774272618036418846465858331859266129934610862145,8,true),(1725547018592579636659649882261079478156847357391821246182723649,8,false),(1725547018592603774272628925454587935889162687253567751193628737,9,false),(1725547018567886104994941988233516680276658241514059053804818497,4,true),(1725547018591831347820971501645365852575881822508101852588937281,5,true),(1725547018567886104994947608209482858900968878810309919101685825,5,true),(1725547018592603751436306503813602678634283015380240878234767425,6,true),(1725547018591831347821325570765059072186778955402362848534335553,6,true),(1725547018592603751436654952957329719620869510978251008883298369,7,true),(1725547018567886104994941988233516680277867167333673682979524673,5,false),(1725547018591831347820971501645365852577090748327716481763643457,6,false),(1725547018567886104994947608375636358375292288742900430811435073,6,false),(1725547018592603774272269587275114275041181936504753572068462657,7,false),(1725547018591831347821325570931212571661102365334953360244084801,7,false),(1725547018592603774272618036418841316027768432102763702716993601,8,false),(1725547018567886104994947608209482940683591649920358958799786049,6,true),(1725547018592603751436306503813602760416905786490289917932867649,7,true),(1725547018567886104994947608375636440156706134033334841334829121,7,false),(1725547018592603774272269587275114356822595781795187982591856705,8,false),(1725547018592603751436666193075415658125228040793777661710176321,8,true),(1725547018592603774272629276370773755057803551985699843834122305,9,false),(1725547018591831347821325570765064224571802639430017875045257281,7,true),(1725547018592603751436654952957334872005893195005906035394220097,8,true),(1725547018591831347821325570931217724044917123542993757580300353,8,false),(1725547018592603774272618036418846468411583190310804100053209153,9,true),(1725547018592603751436666193075420728727628953711383648522997825,9,true),(1725547018592603774272629276370778825660204464903305830646943809,10,false),(1725547018567886104994947432751387494520236170925037060246999105,5,true),(1725547018592579636659290368457356953453810488825143696493121601,6,true),(1725547018567886104994947608209482938129131394227569017252483137,6,true),(1725547018592603751436306503813602757862445530797499976385564737,7,true),(1725547018592579636659649882094920908080123035713123600729903169,7,true),(1725547018592603751436665841993071268879862854382947923616862273,8,true),(1725547018567886104994947432751387494521445096744651689421705281,6,false),(1725547018592579636659290368457356953455019414644758325667827777,7,false),(1725547018567886104994947608375636437603454804160159528962232385,7,true),(1725547018592603774272269587275114354269344451922012670219259969,8,true),(1725547018592579636659649882261074407554446445645714112439652417,8,true),(1725547018592603774272628925454582865286761775507460617450557505,9,true),(1725547018567886104994947608209482940683591651073280463406633025,7,true),(1725547018592603751436306503813602760416905787643211422539714625,8,true),(1725547018567886104994947608375636440156706135186256345941676097,8,false),(1725547018592603774272269587275114356822595782948109487198703681,9,false),(1725547018592603751436666193075415658125228041946699166317023297,9,true),(1725547018592603774272629276370773755057803553138621348440969281,10,false),(1725547018592579636659649882094926139693309234005116220784775233,8,true),(1725547018592603751436665841993076500493049052674940543671734337,9,true),(1725547018592579636659649882261079639166423718118092103319818305,9,true),(1725547018592603774272628925454588096898739047979838608330723393,10,true),(1725547018592603751436666193075420887183953983392980340217745473,10,true),(1725547018592603774272629276370778984116529494584902522341691457,11,false),(1725547018591831347821325395306968778408447234221672271330676801,6,true),(1725547018592579636659638817601089065042797971127736108792680513,7,true),(1725547018591831347821325570765064222017342457524204228336160833,7,true),(1725547018592603751436654952957334869451433013100092388685123649,8,true),(1725547018592579636659649882094925978682524022417705882380931137,8,true),(1725547018592603751436665841993076339482263841087530205267890241,9,true),(1725547018591831347821325395306968778409656160041286900505382977,7,false),(1725547018592579636659638817601089065044006896947350737967386689,8,false),(1725547018591831347821325570931217721491665867456794740045910081,8,true),(1725547018592603774272618036418846465858331934224605082518818881,9,true),(1725547018592579636659649882261079478156847432350296394090680385,9,true),(1725547018592603774272628925454587935889162762212042899101585473,10,true),(1725547018591831347821325570765064224571802714369915674490310721,8,true),(1725547018592603751436654952957334872005893269945803834839273537,9,true),(1725547018591831347821325570931217724044917198482891557025353793,9,false),(1725547018592603774272618036418846468411583265250701899498262593,10,true),(1725547018592603751436666193075420728727629028651281447968051265,10,true),(1725547018592603774272629276370778825660204539843203630091997249,11,true),(1725547018592579636659649882094926139693309307792092515622981697,9,true),(1725547018592603751436665841993076500493049126461916838509940801,10,true),(1725547018592579636659649882261079639166423791905068398158024769,10,false),(1725547018592603774272628925454588096898739121766814903168929857,11,true),(1725547018592603751436666193075420887183954057179956635055951937,11,true),(1725547018592603774272629276370778984116529568371878817179897921,12,false),(1725547018567886104994941988233516680237972615285819174168039489,3,false),(1725547018591831347820971501645365852537196196279861972952158273,4,false),(1725547018567886104994947602892570875722619760966841798343528513,4,false),(1725547018592603020685487833045231593613517539395262929510338625,5,false),(1725547018591831347821325565448147089008429837558894727776178241,5,false),(1725547018592603020685836282188958634600104034993273060158869569,6,false),(1725547018567886104994941988233516680276658241513487307758637121,4,false),(1725547018591831347820971501645365852575881822507530106542755905,5,false),(1725547018567886104994947608209482858900968878809738173055504449,5,false),(1725547018592603751436306503813602678634283015379669132188586049,6,false),(1725547018591831347821325570765059072186778955401791102488154177,6,false),(1725547018592603751436654952957329719620869510977679262837116993,7,false),(1725547018567886104994947602892570957465347980029608075276324929,5,true),(1725547018592603020685487833045231675356245758458029206443135041,6,true),(1725547018567886104994947608209482940605011471644836316397703233,6,false),(1725547018592603751436306503813602760338325608214767275530784833,7,false),(1725547018592603020685847516823979090451790037033312826564022337,7,true),(1725547018592603751436666182275438192294206395174822654530293825,8,false),(1725547018591831347821325565448152241353558969539266991521796161,6,true),(1725547018592603020685836282188963786945233166973645323904487489,7,true),(1725547018591831347821325570765064224493222461154495232643174465,7,false),(1725547018592603751436654952957334871927313016730383392992137281,8,true),(1725547018592603020685847516823984161054190949950918813376843841,8,true),(1725547018592603751436666182275443262896607308092428641343115329,9,false),(1725547018567886104994941988233516680237972615285827970261061697,4,false),(1725547018591831347820971501645365852537196196279870769045180481,5,false),(1725547018567886104994947602892570875722619760966850594436550721,5,false),(1725547018592603020685487833045231593613517539395271725603360833,6,false),(1725547018591831347821325565448147089008429837558903523869200449,6,false),(1725547018592603020685836282188958634600104034993281856251891777,7,false),(1725547018567886104994941988233516680277867167333110733026365505,5,true),(1725547018591831347820971501645365852577090748327153531810484289,6,true),(1725547018567886104994947608375636358375292288742337480858275905,6,true),(1725547018592603774272269587275114275041181936504190622115303489,7,true),(1725547018591831347821325570931212571661102365334390410290925633,7,true),(1725547018592603774272618036418841316027768432102200752763834433,8,true),(1725547018567886104994947602892570957466556905849231500544053313,6,true),(1725547018592603020685487833045231675357454684277652631710863425,7,true),(1725547018567886104994947608375636440079334881577435624200474689,7,true),(1725547018592603774272269587275114356745224529339288765457502273,8,true),(1725547018592603020685847516990132589926113446965912134366793793,8,true),(1725547018592603774272629265736949788701105316299344144457011265,9,true),(1725547018591831347821325565448152241354767895358890416789524545,7,true),(1725547018592603020685836282188963786946442092793268749172215873,8,true),(1725547018591831347821325570931217723967545871087094540445945921,8,true),(1725547018592603774272618036418846468334211937854904882918854721,9,true),(1725547018592603020685847516990137660528514359883518121179615297,9,true),(1725547018592603774272629265736954859303506229216950131269832769,10,true),(1725547018567886104994941988233516680276658241514059053805080641,5,false),(1725547018591831347820971501645365852575881822508101852589199425,6,false),(1725547018567886104994947608209482858900968878810309919101947969,6,false),(1725547018592603751436306503813602678634283015380240878235029569,7,false),(1725547018591831347821325570765059072186778955402362848534597697,7,false),(1725547018592603751436654952957329719620869510978251008883560513,8,false),(1725547018567886104994941988233516680277867167333673682979786817,6,false),(1725547018591831347820971501645365852577090748327716481763905601,7,false),(1725547018567886104994947608375636358375292288742900430811697217,7,false),(1725547018592603774272269587275114275041181936504753572068724801,8,false),(1725547018591831347821325570931212571661102365334953360244346945,8,false),(1725547018592603774272618036418841316027768432102763702717255745,9,false),(1725547018567886104994947608209482940683591649920358958800048193,7,true),(1725547018592603751436306503813602760416905786490289917933129793,8,true),(1725547018567886104994947608375636440156706134033334841335091265,8,false),(1725547018592603774272269587275114356822595781795187982592118849,9,false),(1725547018592603751436666193075415658125228040793777661710438465,9,true),(1725547018592603774272629276370773755057803551985699843834384449,10,false),(1725547018591831347821325570765064224571802639430017875045519425,8,true),(1725547018592603751436654952957334872005893195005906035394482241,9,true),(1725547018591831347821325570931217724044917123542993757580562497,9,false),(1725547018592603774272618036418846468411583190310804100053471297,10,true),(1725547018592603751436666193075420728727628953711383648523259969,10,true),(1725547018592603774272629276370778825660204464903305830647205953,11,false),(1725547018567886104994947602892570957465347981219130122948579393,6,true),(1725547018592603020685487833045231675356245759647551254115389505,7,true),(1725547018567886104994947608209482940605011472834358364069957697,7,true),(1725547018592603751436306503813602760338325609404289323203039297,8,true),(1725547018592603020685847516823979090451790038222834874236276801,8,true),(1725547018592603751436666182275438192294206396364344702202548289,9,true),(1725547018567886104994947602892570957466556907038744752123285569,7,true),(1725547018592603020685487833045231675357454685467165883290095681,8,true),(1725547018567886104994947608375636440079334882766948875779706945,8,true),(1725547018592603774272269587275114356745224530528802017036734529,9,true),(1725547018592603020685847516990132589926113448155425385946026049,9,true),(1725547018592603774272629265736949788701105317488857396036243521,10,true),(1725547018567886104994947608209482940683591651109309260425859137,8,true),(1725547018592603751436306503813602760416905787679240219558940737,9,true),(1725547018567886104994947608375636440156706135222285142960902209,9,false),(1725547018592603774272269587275114356822595782984138284217929793,10,false),(1725547018592603751436666193075415658125228041982727963336249409,10,true),(1725547018592603774272629276370773755057803553174650145460195393,11,false),(1725547018592603020685847516823984324540856315085588044089397313,9,true),(1725547018592603751436666182275443426383272673227097872055668801,10,true),(1725547018592603020685847516990137824013970799198563926624440385,10,true),(1725547018592603774272629265736955022788962668531995936714657857,11,true),(1725547018592603751436666193075420892135714140570530236833468481,11,true),(1725547018592603774272629276370778989068289651762452418957414465,12,false),(1725547018591831347821325565448152241353559044515765334032257089,7,true),(1725547018592603020685836282188963786945233241950143666414948417,8,true),(1725547018591831347821325570765064224493222536130993575153635393,8,true),(1725547018592603751436654952957334871927313091706881735502598209,9,true),(1725547018592603020685847516823984161054191024927417155887304769,9,true),(1725547018592603751436666182275443262896607383068926983853576257,10,true),(1725547018591831347821325565448152241354767970335379963206963265,8,true),(1725547018592603020685836282188963786946442167769758295589654593,9,true),(1725547018591831347821325570931217723967545946063584086863384641,9,true),(1725547018592603774272618036418846468334212012831394429336293441,10,true),(1725547018592603020685847516990137660528514434860007667597054017,10,true),(1725547018592603774272629265736954859303506304193439677687271489,11,true),(1725547018591831347821325570765064224571802714405944471509536833,9,true),(1725547018592603751436654952957334872005893269981832631858499649,10,true),(1725547018591831347821325570931217724044917198518920354044579905,10,false),(1725547018592603774272618036418846468411583265286730696517488705,11,true),(1725547018592603751436666193075420728727629028687310244987277377,11,true),(1725547018592603774272629276370778825660204539879232427111223361,12,true),(1725547018592603020685847516823984324540856388872564338927603777,10,true),(1725547018592603751436666182275443426383272747014074166893875265,11,true),(1725547018592603020685847516990137824013970872985540221462646849,11,true),(1725547018592603774272629265736955022788962742318972231552864321,12,true),(1725547018592603751436666193075420892135714214357506531671674945,12,true),(1725547018592603774272629276370778989068289725549428713795620929,13,false),(1725547018567886104994947432751387494481550544696797180626997313,4,false),(1725547018592579636659290368457356953415124862596903816873119809,5,false),(1725547018567886104994947602892570954950782276384100896511103041,5,false),(1725547018592603020685487833045231672841680054812522027677913153,6,false),(1725547018592579636659649876778008924901773917869655479988523073,6,true),(1725547018592603020685847171224700183859097378397969974909210689,7,false),(1725547018567886104994947432751387494520236170924465314217594945,5,false),(1725547018592579636659290368457356953453810488824571950463717441,6,false),(1725547018567886104994947608209482938129131394226997271223078977,6,true),(1725547018592603751436306503813602757862445530796928230356160577,7,true),(1725547018592579636659649882094920908080123035712551854700499009,7,true),(1725547018592603751436665841993071268879862854382376177587458113,8,true),(1725547018567886104994947602892570957465347981182529579899949121,6,false),(1725547018592603020685487833045231675356245759610950711066759233,7,false),(1725547018567886104994947608209482940605011472797757821021327425,7,false),(1725547018592603751436306503813602760338325609367688780154409025,8,false),(1725547018592603020685847516823979090451790038186234331187646529,8,true),(1725547018592603751436666182275438192294206396327744159153918017,9,false),(1725547018592579636659649876778014156475065564114365337278091329,7,true),(1725547018592603020685847171224705415432389024642679832198778945,8,true),(1725547018592579636659649882094926139614729055729593578399469633,8,true),(1725547018592603751436665841993076500414468874399417901286428737,9,true),(1725547018592603020685847516823984319510515979632515505088368705,9,true),(1725547018592603751436666182275443421352932337774025333054640193,10,false),(1725547018567886104994947432751387494481550544696805976720019521,5,false),(1725547018592579636659290368457356953415124862596912612966142017,6,false),(1725547018567886104994947602892570954950782276384109692604125249,6,false),(1725547018592603020685487833045231672841680054812530823770935361,7,false),(1725547018592579636659649876778008924901773917869664276081545281,7,true),(1725547018592603020685847171224700183859097378397978771002232897,8,false),(1725547018567886104994947432751387494521445096744088739485323329,6,true),(1725547018592579636659290368457356953455019414644195375731445825,7,true),(1725547018567886104994947608375636437603454804159596579025850433,7,true),(1725547018592603774272269587275114354269344451921449720282878017,8,true),(1725547018592579636659649882261074407554446445645151162503270465,8,true),(1725547018592603774272628925454582865286761775506897667514175553,9,true),(1725547018567886104994947602892570957466556907002153005167677505,7,true),(1725547018592603020685487833045231675357454685430574136334487617,8,true),(1725547018567886104994947608375636440079334882730357128824098881,8,true),(1725547018592603774272269587275114356745224530492210270081126465,9,true),(1725547018592603020685847516990132589926113448118833638990417985,9,true),(1725547018592603774272629265736949788701105317452265649080635457,10,true),(1725547018592579636659649876778014156476274489933988762545819713,8,true),(1725547018592603020685847171224705415433597950462303257466507329,9,true),(1725547018592579636659649882261079639089052465662192886202241089,9,true),(1725547018592603774272628925454588096821367795523939391213146177,10,true),(1725547018592603020685847516990137818984839389565114812891140161,10,true),(1725547018592603774272629265736955017759831258898546822981357633,11,true),(1725547018567886104994947432751387494520236170925037060264038465,6,false),(1725547018592579636659290368457356953453810488825143696510160961,7,false),(1725547018567886104994947608209482938129131394227569017269522497,7,true),(1725547018592603751436306503813602757862445530797499976402604097,8,true),(1725547018592579636659649882094920908080123035713123600746942529,8,true),(1725547018592603751436665841993071268879862854382947923633901633,9,true),(1725547018567886104994947432751387494521445096744651689438744641,7,false),(1725547018592579636659290368457356953455019414644758325684867137,8,false),(1725547018567886104994947608375636437603454804160159528979271745,8,true),(1725547018592603774272269587275114354269344451922012670236299329,9,true),(1725547018592579636659649882261074407554446445645714112456691777,9,true),(1725547018592603774272628925454582865286761775507460617467596865,10,true),(1725547018567886104994947608209482940683591651073280463423672385,8,true),(1725547018592603751436306503813602760416905787643211422556753985,9,true),(1725547018567886104994947608375636440156706135186256345958715457,9,true),(1725547018592603774272269587275114356822595782948109487215743041,10,true),(1725547018592603751436666193075415658125228041946699166334062657,10,true),(1725547018592603774272629276370773755057803553138621348458008641,11,true),(1725547018592579636659649882094926139693309234005116220801814593,9,true),(1725547018592603751436665841993076500493049052674940543688773697,10,true),(1725547018592579636659649882261079639166423718118092103336857665,10,true),(1725547018592603774272628925454588096898739047979838608347762753,11,true),(1725547018592603751436666193075420887183953983392980340234784833,11,true),(1725547018592603774272629276370778984116529494584902522358730817,12,true),(1725547018567886104994947602892570957465347981219130122965356609,7,false),(1725547018592603020685487833045231675356245759647551254132166721,8,false),(1725547018567886104994947608209482940605011472834358364086734913,8,false),(1725547018592603751436306503813602760338325609404289323219816513,9,false),(1725547018592603020685847516823979090451790038222834874253054017,9,true),(1725547018592603751436666182275438192294206396364344702219325505,10,false),(1725547018567886104994947602892570957466556907038744752140062785,8,false),(1725547018592603020685487833045231675357454685467165883306872897,9,false),(1725547018567886104994947608375636440079334882766948875796484161,9,true),(1725547018592603774272269587275114356745224530528802017053511745,10,true),(1725547018592603020685847516990132589926113448155425385962803265,10,true),(1725547018592603774272629265736949788701105317488857396053020737,11,true),(1725547018567886104994947608209482940683591651109309260442636353,9,false),(1725547018592603751436306503813602760416905787679240219575717953,10,false),(1725547018567886104994947608375636440156706135222285142977679425,10,false),(1725547018592603774272269587275114356822595782984138284234707009,11,false),(1725547018592603751436666193075415658125228041982727963353026625,11,true),(1725547018592603774272629276370773755057803553174650145476972609,12,false),(1725547018592603020685847516823984324540856315085588044106174529,10,true),(1725547018592603751436666182275443426383272673227097872072446017,11,true),(1725547018592603020685847516990137824013970799198563926641217601,11,true),(1725547018592603774272629265736955022788962668531995936731435073,12,true),(1725547018592603751436666193075420892135714140570530236850245697,12,true),(1725547018592603774272629276370778989068289651762452418974191681,13,false),(1725547018592579636659649876778014156475065640243785184395399233,8,true),(1725547018592603020685847171224705415432389100772099679316086849,9,true),(1725547018592579636659649882094926139614729131859013425516777537,9,true),(1725547018592603751436665841993076500414468950528837748403736641,10,true),(1725547018592603020685847516823984319510516055761935352205676609,10,true),(1725547018592603751436666182275443421352932413903445180171948097,11,true),(1725547018592579636659649876778014156476274566063399813570105409,9,true),(1725547018592603020685847171224705415433598026591714308490793025,10,true),(1725547018592579636659649882261079639089052541791603937226526785,10,true),(1725547018592603774272628925454588096821367871653350442237431873,11,true),(1725547018592603020685847516990137818984839465694525863915425857,11,true),(1725547018592603774272629265736955017759831335027957874005643329,12,true),(1725547018592579636659649882094926139693309310133964321872678977,10,true),(1725547018592603751436665841993076500493049128803788644759638081,11,true),(1725547018592579636659649882261079639166423794246940204407722049,11,true),(1725547018592603774272628925454588096898739124108686709418627137,12,true),(1725547018592603751436666193075420887183954059521828441305649217,12,true),(1725547018592603774272629276370778984116529570713750623429595201,13,true),(1725547018592603020685847516823984324540856391178407348158074945,11,true),(1725547018592603751436666182275443426383272749319917176124346433,12,true),(1725547018592603020685847516990137824013970875291383230693118017,12,true),(1725547018592603774272629265736955022788962744624815240783335489,13,true),(1725547018592603751436666193075420892135714216663349540902146113,13,true),(1725547018592603774272629276370778989068289727855271723026092097,14,false),(1725547018591831347821325395306968778369761607993432392784416833,5,false),(1725547018592579636659638817601089065004112344899496230246420545,6,false),(1725547018591831347821325565448152238838993339680736108668522561,6,false),(1725547018592603020685836282188963784430667537115114441051213889,7,true),(1725547018592579636659649876778013995504174904574237762713292865,7,false),(1725547018592603020685847171224705254461498365102552257633980481,8,false),(1725547018591831347821325395306968778408447234221100526375014465,6,false),(1725547018592579636659638817601089065042797971127164363837018177,7,false),(1725547018591831347821325570765064222017342457523632483380498497,7,true),(1725547018592603751436654952957334869451433013099520643729461313,8,true),(1725547018592579636659649882094925978682524022417134137425268801,8,true),(1725547018592603751436665841993076339482263841086958460312227905,9,true),(1725547018591831347821325565448152241353559044479164792057368641,7,false),(1725547018592603020685836282188963786945233241913543124440059969,8,true),(1725547018591831347821325570765064224493222536094393033178746945,8,false),(1725547018592603751436654952957334871927313091670281193527709761,9,true),(1725547018592603020685847516823984161054191024890816613912416321,9,true),(1725547018592603751436666182275443262896607383032326441878687809,10,true),(1725547018592579636659649876778014156475065637901341633190039617,8,false),(1725547018592603020685847171224705415432389098429656128110727233,9,false),(1725547018592579636659649882094926139614729129516569874311417921,9,false),(1725547018592603751436665841993076500414468948186394197198377025,10,true),(1725547018592603020685847516823984319510516053419491801000316993,10,false),(1725547018592603751436666182275443421352932411561001628966588481,11,false),(1725547018591831347821325395306968778369761607993441188877439041,6,false),(1725547018592579636659638817601089065004112344899505026339442753,7,false),(1725547018591831347821325565448152238838993339680744904761544769,7,false),(1725547018592603020685836282188963784430667537115123237144236097,8,true),(1725547018592579636659649876778013995504174904574246558806315073,8,false),(1725547018592603020685847171224705254461498365102561053727002689,9,false),(1725547018591831347821325395306968778409656160040723951642742849,7,true),(1725547018592579636659638817601089065044006896946787789104746561,8,true),(1725547018591831347821325570931217721491665867456231791183269953,8,true),(1725547018592603774272618036418846465858331934224042133656178753,9,true),(1725547018592579636659649882261079478156847432349733445228040257,9,true),(1725547018592603774272628925454587935889162762211479950238945345,10,true),(1725547018591831347821325565448152241354767970298788217325097025,8,true),(1725547018592603020685836282188963786946442167733166549707788353,9,true),(1725547018591831347821325570931217723967545946026992340981518401,9,true),(1725547018592603774272618036418846468334212012794802683454427201,10,true),(1725547018592603020685847516990137660528514434823415921715187777,10,true),(1725547018592603774272629265736954859303506304156847931805405249,11,true),(1725547018592579636659649876778014156476274563720965058457768001,9,true),(1725547018592603020685847171224705415433598024249279553378455617,10,true),(1725547018592579636659649882261079639089052539449169182114189377,10,true),(1725547018592603774272628925454588096821367869310915687125094465,11,true),(1725547018592603020685847516990137818984839463352091108803088449,11,true),(1725547018592603774272629265736955017759831332685523118893305921,12,true),(1725547018591831347821325395306968778408447234221672272421457985,7,false),(1725547018592579636659638817601089065042797971127736109883461697,8,false),(1725547018591831347821325570765064222017342457524204229426942017,8,true),(1725547018592603751436654952957334869451433013100092389775904833,9,true),(1725547018592579636659649882094925978682524022417705883471712321,9,true),(1725547018592603751436665841993076339482263841087530206358671425,10,true),(1725547018591831347821325395306968778409656160041286901596164161,8,false),(1725547018592579636659638817601089065044006896947350739058167873,9,false),(1725547018591831347821325570931217721491665867456794741136691265,9,true),(1725547018592603774272618036418846465858331934224605083609600065,10,true),(1725547018592579636659649882261079478156847432350296395181461569,10,true),(1725547018592603774272628925454587935889162762212042900192366657,11,true),(1725547018591831347821325570765064224571802714369915675581091905,9,true),(1725547018592603751436654952957334872005893269945803835930054721,10,true),(1725547018591831347821325570931217724044917198482891558116134977,10,true),(1725547018592603774272618036418846468411583265250701900589043777,11,true),(1725547018592603751436666193075420728727629028651281449058832449,11,true),(1725547018592603774272629276370778825660204539843203631182778433,12,true),(1725547018592579636659649882094926139693309307792092516713762881,10,true),(1725547018592603751436665841993076500493049126461916839600721985,11,true),(1725547018592579636659649882261079639166423791905068399248805953,11,true),(1725547018592603774272628925454588096898739121766814904259711041,12,true),(1725547018592603751436666193075420887183954057179956636146733121,12,true),(1725547018592603774272629276370778984116529568371878818270679105,13,true),(1725547018591831347821325565448152241353559044515765335122776129,8,false),(1725547018592603020685836282188963786945233241950143667505467457,9,true),(1725547018591831347821325570765064224493222536130993576244154433,9,false),(1725547018592603751436654952957334871927313091706881736593117249,10,true),(1725547018592603020685847516823984161054191024927417156977823809,10,true),(1725547018592603751436666182275443262896607383068926984944095297,11,true),(1725547018591831347821325565448152241354767970335379964297482305,9,false),(1725547018592603020685836282188963786946442167769758296680173633,10,true),(1725547018591831347821325570931217723967545946063584087953903681,10,true),(1725547018592603774272618036418846468334212012831394430426812481,11,true),(1725547018592603020685847516990137660528514434860007668687573057,11,true),(1725547018592603774272629265736954859303506304193439678777790529,12,true),(1725547018591831347821325570765064224571802714405944472600055873,10,false),(1725547018592603751436654952957334872005893269981832632949018689,11,true),(1725547018591831347821325570931217724044917198518920355135098945,11,false),(1725547018592603774272618036418846468411583265286730697608007745,12,true),(1725547018592603751436666193075420728727629028687310246077796417,12,true),(1725547018592603774272629276370778825660204539879232428201742401,13,true),(1725547018592603020685847516823984324540856388872564340018122817,11,true),(1725547018592603751436666182275443426383272747014074167984394305,12,true),(1725547018592603020685847516990137824013970872985540222553165889,12,true),(1725547018592603774272629265736955022788962742318972232643383361,13,true),(1725547018592603751436666193075420892135714214357506532762193985,13,true),(1725547018592603774272629276370778989068289725549428714886139969,14,true),(1725547018592579636659649876778014156475065640243785185469141057,9,false),(1725547018592603020685847171224705415432389100772099680389828673,10,false),(1725547018592579636659649882094926139614729131859013426590519361,10,false),(1725547018592603751436665841993076500414468950528837749477478465,11,true),(1725547018592603020685847516823984319510516055761935353279418433,11,false),(1725547018592603751436666182275443421352932413903445181245689921,12,false),(1725547018592579636659649876778014156476274566063399814643847233,10,false),(1725547018592603020685847171224705415433598026591714309564534849,11,false),(1725547018592579636659649882261079639089052541791603938300268609,11,true),(1725547018592603774272628925454588096821367871653350443311173697,12,true),(1725547018592603020685847516990137818984839465694525864989167681,12,true),(1725547018592603774272629265736955017759831335027957875079385153,13,true),(1725547018592579636659649882094926139693309310133964322946420801,11,false),(1725547018592603751436665841993076500493049128803788645833379905,12,true),(1725547018592579636659649882261079639166423794246940205481463873,12,false),(1725547018592603774272628925454588096898739124108686710492368961,13,true),(1725547018592603751436666193075420887183954059521828442379391041,13,true),(1725547018592603774272629276370778984116529570713750624503337025,14,true),(1725547018592603020685847516823984324540856391178407349231816769,12,false),(1725547018592603751436666182275443426383272749319917177198088257,13,false),(1725547018592603020685847516990137824013970875291383231766859841,13,false),(1725547018592603774272629265736955022788962744624815241857077313,14,true),(1725547018592603751436666193075420892135714216663349541975887937,14,false),(1725547018592603774272629276370778989068289727855271724099833921,15,false)]
def UI:tab 6=T6:=by decide +kernel
abbrev ck (i:Nat):Bool:=((T6.drop (60 * i)).take 60).all (one T6)
def VJ:ck 0=true:=by decide +kernel
def VS:ck 1=true:=by decide +kernel
def Wa:ck 2=true:=by decide +kernel
def V6:ck 3=true:=by decide +kernel
def VD:ck 4=true:=by decide +kernel
def VH:ck 5=true:=by decide +kernel
def VE:ck 6=true:=by decide +kernel
def V_:ck 7=true:=by decide +kernel
def VI:ck 8=true:=by decide +kernel
def VB:ck 9=true:=by decide +kernel
def Ua:ck 10=true:=by decide +kernel
def U5:ck 11=true:=by decide +kernel
def VL:∀i,i<12->ck i=true
 | 0,_=>VJ
 | 1,_=>VS
 | 2,_=>Wa
 | 3,_=>V6
 | 4,_=>VD
 | 5,_=>VH
 | 6,_=>VE
 | 7,_=>V_
 | 8,_=>VI
 | 9,_=>VB
 | 10,_=>Ua
 | 11,_=>U5
def Uy:T6.length=720:=by decide +kernel
def Ue:∀n,1<=n->n<=5->((inj n n).all λa=>one (tab n) (Qp n a))=true
 | 1,_,_|2,_,_|3,_,_|4,_,_|5,_,_=>by decide +kernel
def Rz{n:Nat}{a:ae}(h1:1<=n)(hn:n<=6)(pa:a.Perm (rg n)):one (tab n) (Qp n a)=true:=by
 by_cases c:n<=5
 ·exact eG.mp (Ue n h1 c) a (Eu.qT.mpr pa)
 ·have e:n=6:=()
  subst e;have hm:Qp 6 a∈tab 6:=bA.mpr ⟨a,Eu.qT.mpr pa,rfl⟩;rw[UI]at hm ⊢;obtain⟨j,hj,ej⟩:=d7.mp hm;have l6:=Uy;refine eG.mp (VL (j / 60) ()) _ ?_;rw[<- ej];refine d7.mpr ⟨j % 60,by rw[bw,cB];lia,?_⟩;rw[List.getElem_take,List.getElem_drop];congr 1
  lia
end Pa
namespace Pa
open PySem L2 Bl Am
open Fw (rg)
open Wd (ex led jN)
open Eu (inj Lo)
def O2{n k:Nat}(h0:1<=k)(h:k<n)(g0:1<=j)(g:j<n)(e:ex (rg n) k=ex (rg n) j):k=j:=by
 have l:(rg n).length=n:=Wd.jY n;have rk:(rg n)[k]?=some ((k:Int)+1):=Wd.lX h;have a1:=Wd.mX (l:=rg n) h0 (by rw[l];exact h) (k-1);rw[aM (show ¬k-1=k by lia),aN rfl,e,Wd.mX (l:=rg n) g0 (by rw[l];exact g),rk]at a1;by_cases c:k-1=j
 ·rw[aN c,show(rg n)[j-1]?=some (((j-1:Nat):Int)+1)from Wd.lX ()]at a1;have:=aR a1
  lia
 ·rw[aM c]at a1;by_cases d:k-1=j-1
  ·lia
  ·rw[aM d,show(rg n)[k-1]?=some (((k-1:Nat):Int)+1)from Wd.lX ()]at a1;have:=aR a1
   lia
theorem SM{n:Nat}:∀(w:ag) (v:ae) (u:ag),v.Perm (rg n)->jN v w->(∀z,z.Perm (rg n)->(Below z v/\Iv.inv z=1 ↔ ∃k∈u,z=ex (rg n) k))->∀z,z.Perm (rg n)->(Below z (led v w)/\Iv.inv z=1 ↔ ∃k∈u++w,z=ex (rg n) k)
 | [],v,u,_,_,h=>by rw[cA];exact h
 | k::w,v,u,pv,hr,h=>by
  obtain⟨h0,h1,h2,h3⟩:=hr;rw[Eu.ln pv]at h1;have:=SM w (ex v k) (u++[k]) (Eu.QD pv h0 h1) h3 λz pz=>by
   rw[Eu.GB pv pz h0 h1 h2];constructor
   ·rintro⟨b|⟨c1,c2⟩,i1⟩
    ·obtain⟨q,hq,e⟩:=(h z pz).mp ⟨b,i1⟩;exact⟨q,bP _ hq,e⟩
    ·have iz:=Fw.zm (l:=z) h0 (by rw[Eu.ln pz];exact h1) c1;have e0:ex z k=rg n:=Cw.zero (Eu.QD pz h0 h1) ();refine⟨k,aX _ (aW ..),?_⟩;rw[<- e0,Eu.PZ pz h0 h1]
   ·rintro⟨q,hq,e⟩
    rcases bh.mp hq with hq|hq
    ·obtain⟨b,i1⟩:=(h z pz).mpr ⟨q,hq,e⟩;exact⟨.inl b,i1⟩
    ·have:q=k:=by simpa using hq
     subst this;have ri:(rg n).getD (q-1) 0<(rg n).getD q 0:=by
      rw[aI,aI,show(rg n)[q-1]?=some (((q-1:Nat):Int)+1)from Wd.lX (),show(rg n)[q]?=some ((q:Int)+1)from Wd.lX h1];show((q-1:Nat):Int)+1<(q:Int)+1
      lia
     have pr:=cZ (rg n);have iu:=Fw.zB (l:=rg n) h0 (by rw[Eu.ln pr];exact h1) ri;rw[<- e,Fw.yV]at iu;refine⟨.inr ⟨?_,?_⟩,iu⟩
     ·rw[e,Eu.hi pr h0 h1,Eu.lo pr h0 h1];exact ri
     ·rw[e,Eu.PZ pr h0 h1];obtain⟨r1,r2⟩:=He.NF pv;have:=Wd.rD r1;rw[r2]at this;exact this
  rw[bH]at this;exact this
theorem M7:∀(ns σ:ae),σ.Nodup->(ns.foldl PyProof.Rows.step_dedup σ).Nodup/\∀x,x∈ns.foldl PyProof.Rows.step_dedup σ ↔ x∈σ\/x∈ns
 | [],σ,h=>⟨h,λx=>by simp⟩
 | n::ns,σ,h=>by
  have hs:(PyProof.Rows.step_dedup σ n).Nodup/\∀x,x∈PyProof.Rows.step_dedup σ n ↔ x∈σ\/x=n:=by
   unfold PyProof.Rows.step_dedup;split
   ·next c=>
    obtain⟨y,hy,e⟩:=gH.mp c;have:y=n:=by simpa using e
    subst this;exact⟨h,λx=>⟨.inl,λq=>q.elim id λe=>by rw[e];exact hy⟩⟩
   ·next c=>
    refine⟨cD.mpr ⟨h,by simp,λa ha b hb e=>c (gH.mpr ⟨a,ha,?_⟩)⟩,λx=>by rw[bh,bB]⟩;rw[e,bB.mp hb];simp
  obtain⟨h1,h2⟩:=M7 ns _ hs.1;refine⟨h1,λx=>?_⟩;rw[gR,h2,hs.2,bJ];constructor
  ·rintro((a|a)|a)
   ·exact .inl a
   ·exact .inr (.inl a)
   ·exact .inr (.inr a)
  ·rintro(a|a|a)
   ·exact .inl (.inl a)
   ·exact .inl (.inr a)
   ·exact .inr a
def ones{n:Nat}{a:ae}{w:ag}{ks:List (ae)}(pa:a.Perm (rg n))(hr:jN (rg n) w)(hl:led (rg n) w=a)(lo:Lo n a ks):ks.countP (λz=>Iv.inv z == 1)=((w.map λk:Nat=>(k:Int)).foldl PyProof.Rows.step_dedup []).length:=by
 obtain⟨nd,mm⟩:=M7 (w.map λk:Nat=>(k:Int)) [] ig;have hs:=SM w (rg n) [] (.refl _) hr λz pz=>⟨λh=>by
  have:=(Eu.mono (cZ (rg n)) _ z rfl pz h.1).1;rw[Fw.yV]at this
  lia,λh=>by obtain⟨k,hk,_⟩:=h;cases hk⟩
 rw[hl,List.nil_append]at hs;have va:=Wd.jN.valid hr;rw[Wd.jY]at va;rw[eW,<- aK (f:=λx:Int=>ex (rg n) x.toNat)];refine List.Perm.length_eq ((dO (lo.nd.sublist c_) (dX.mpr (fR (λ{x y} hx hy ne e=>ne ?_) nd))).mpr λz=>?_)
 ·rw[bO,lo.mm,bA];constructor
  ·rintro⟨⟨pz,bz⟩,i1⟩;obtain⟨k,hk,e⟩:=(hs z pz).mp ⟨bz,by simpa using i1⟩;exact⟨k,(mm _).mpr (.inr (bA.mpr ⟨k,hk,rfl⟩)),by rw[b9,e]⟩
  ·rintro⟨x,hx,e⟩;obtain⟨k,hk,rfl⟩:=bA.mp (((mm x).mp hx).resolve_left (by simp));rw[b9]at e;have pz:z.Perm (rg n):=by rw[<- e];exact Eu.QD (.refl _) (va k hk).1 (va k hk).2
   obtain⟨b,i1⟩:=(hs z pz).mpr ⟨k,hk,e.symm⟩;exact⟨⟨pz,b⟩,by rw[i1];rfl⟩
 ·obtain⟨k,hk,rfl⟩:=bA.mp (((mm x).mp hx).resolve_left (by simp));obtain⟨j,hj,rfl⟩:=bA.mp (((mm y).mp hy).resolve_left (by simp));rw[b9,b9]at e;rw[O2 (va k hk).1 (va k hk).2 (va j hj).1 (va j hj).2 e]
def sG{n:Nat}{a x:ae}{ks:List (ae)}(lo:Lo n a ks)(px:x.Perm (rg n))(bx:Below x a)(hx:Iv.inv x=m)(hu:∀z,z.Perm (rg n)->Below z a->Iv.inv z=m->z=x):ks.countP (λz=>Iv.inv z == m)=1:=by
 rw[eW];refine(List.Perm.length_eq ((dO (lo.nd.sublist c_) (dR.mpr ⟨List.not_mem_nil,ig⟩:[x].Nodup)).mpr λz=>?_));rw[bO,lo.mm,bB];constructor
 ·rintro⟨⟨pz,bz⟩,i⟩;exact hu z pz bz (by simpa using i)
 ·rintro rfl;exact⟨⟨px,bx⟩,by simpa using hx⟩
end Pa
namespace K52
open PySem L2 Am
abbrev top (i:Nat):aF:=PySem.Challenge.pw_undercells_k52_counts_even_where_plain.main.body.getD i (.Pass ⟨0,0,0,0⟩)
meta abbrev o_:aF:=top 5
meta abbrev oJ:am:=["n"]
meta abbrev oY:am:=["n"]
abbrev pq:Sm:=
 kg (jz (f1 p6) (i8 (jz (f2 tw) (i8 (eC (.int 1)) (i8 (jc kW (i7 0) (eC (.int 1))) jj))) jj))
abbrev k8:ad->jd->R A:=lR oJ pq
meta abbrev qI:aF:=top 6
meta abbrev qt:am:=["one", "other"]
meta abbrev om:am:=["one", "other"]
abbrev qw:Sm:=
 uK (nG (jc (qg true) (jz (f1 mD) (i8 (i7 0) jj)) (jz (f1 mD) (i8 (i7 1) jj))))
 (SS)
 m_
abbrev kE:ad->jd->R A:=lR qt qw
meta abbrev lJ:aF:=top 7
meta abbrev lH:am:=["order", "i", "j", "things"]
meta abbrev lI:am:=["order", "i", "j"]
abbrev lG:Sm:=
 jF (j7 (jz (f1 vC) (i8 (i7 0) jj)) (jU 3))
 (jF (j7 (rJ (i8 (jc lC (i7 3) (jc aSub (i7 2) (eC (.int 1)))) (i8 (jc lC (i7 3) (jc aSub (i7 1) (eC (.int 1)))) jj))) (zH 2 (qM (QE (i7 3) (jc aSub (i7 1) (eC (.int 1)))) (qM (QE (i7 3) (jc aSub (i7 2) (eC (.int 1)))) zJ))))
 (kg (jz (f1 p6) (i8 (i7 3) jj))))
abbrev jG:ad->jd->R A:=lR lH lG
meta abbrev oH:aF:=top 8
meta abbrev oS:am:=["n"]
meta abbrev m5:am:=["n"]
abbrev oO:Sm:=
 kg (Br [none,none,some 0] (ng (eC (.int 1)) (i7 0)) (jU 0) uS (ng (jc kW (i7 0) (eC (.int 1))) (jc kW (i7 2) (eC (.int 1)))) (jU 1) uS (rJ (i8 (i7 0) (i8 (i7 1) jj))))
abbrev jP:ad->jd->R A:=lR oS oO
meta abbrev oX:aF:=top 9
meta abbrev oK:am:=["order"]
meta abbrev oQ:am:=["order"]
abbrev oW:Sm:=
 kg (j8 [none,none,some 0] (qi (eFn jP (i8 (jz (f1 mD) (i8 (i7 0) jj)) jj))) (zH 2 (qM (jU 0) (qM (jU 1) zJ))) (nG (jc yq (jc lC (i7 2) (jc aSub (i7 0) (eC (.int 1)))) (jc lC (i7 2) (jc aSub (i7 1) (eC (.int 1)))))) (rJ (i8 (i7 0) (i8 (i7 1) jj))))
abbrev k9:ad->jd->R A:=lR oK oW
meta abbrev wu:aF:=top 10
meta abbrev vK:am:=["order"]
meta abbrev sY:am:=["order"]
abbrev wW:Sm:=
 kg (jz (f1 mD) (i8 (eFn k9 (i8 (i7 0) jj)) jj))
abbrev mh:ad->jd->R A:=lR vK wW
meta abbrev kN:aF:=top 13
meta abbrev kL:am:=["numbers", "place"]
meta abbrev kG:am:=["numbers"]
abbrev l_:Te:=
 nG (jc SX (jc lC (i7 0) (jc aSub (i7 1) (eC (.int 1)))) (eC (.int 0)))
abbrev mq:Sm:=
 IK 1 BF (eC (.int 1))
abbrev kJ:Sm:=
 jF (j7 (eC (.int 1)) (jU 1))
 (jF (kT l_
 mq 1000000)
 (kg (i7 1)))
abbrev jS:ad->jd->R A:=lR kL kJ
meta abbrev JU:aF:=top 12
meta abbrev Kh:am:=["one", "other", "more", "at", "j"]
meta abbrev KC:am:=["one", "other"]
abbrev EB:Ic:=
 pK (jc lC (i7 0) (i7 3))
abbrev Et:Sm:=
 uN (i7 2) (i7 4) (eC (.int 1)) BF
abbrev Ep:Ic:=
 pK (jc lC (i7 1) (i7 3))
abbrev ET:Sm:=
 uN (i7 2) (i7 4) (eC (.int 1)) aSub
abbrev LU:Ic:=
 pK (jz (f1 mD) (i8 (i7 0) jj))
abbrev E1:Sm:=
 jF (nV EB (jU 4)
 Et)
 (jF (nV Ep (jU 4)
 ET)
 (uK (nG (jc yq (jz (f1 GV) (i8 (i7 2) jj)) (eC (.int 0))))
 (kg (rJ (i8 (jc kW (i7 3) (eC (.int 1))) (i8 (eFn jS (i8 (i7 2) jj)) jj))))
 m_))
abbrev Hv:Sm:=
 jF (uQ (eFn kE (i8 (i7 0) (i8 (i7 1) jj))))
 (jF (j7 (jc sE (rz (i8 (eC (.int 0)) jj)) (jz (f1 mD) (i8 (i7 0) jj))) (jU 2))
 (jF (nV LU (jU 3)
 E1)
 (kg (eC .non))))
abbrev ym:ad->jd->R A:=lR Kh Hv
meta abbrev rW:aF:=top 14
meta abbrev pS:am:=["one", "other"]
meta abbrev rV:am:=["one", "other"]
abbrev pR:Sm:=
 kg (jc (zo false) (eFn ym (i8 (i7 0) (i8 (i7 1) jj))) (eC .non))
abbrev kH:ad->jd->R A:=lR pS pR
meta abbrev oU:aF:=top 16
meta abbrev o5:am:=["one", "other", "free_things", "most_things", "most_pairs"]
meta abbrev oR:am:=["one", "other", "free_things", "most_things", "most_pairs"]
abbrev oG:Sm:=
 jF (uK (nG (jc SX (jz (f1 mD) (i8 (i7 0) jj)) (i7 2)))
 (HF)
 m_)
 (uK (F_ (nG (jc yq (jz (f1 mD) (i8 (i7 0) jj)) (i7 3))) (nG (jc yq (jc aSub (eFn mh (i8 (i7 1) jj)) (eFn mh (i8 (i7 0) jj))) (i7 4))))
 (SS)
 m_)
abbrev k_:ad->jd->R A:=lR o5 oG
meta abbrev tK:aF:=top 21
meta abbrev ur:am:=["order", "i", "j", "low", "high"]
meta abbrev uq:am:=["order", "i", "j"]
abbrev uf:Sm:=
 jF (j7 (jz (f2 Cr) (i8 (jc lC (i7 0) (jc aSub (i7 1) (eC (.int 1)))) (i8 (jc lC (i7 0) (jc aSub (i7 2) (eC (.int 1)))) jj))) (jU 3))
 (jF (j7 (jz (f2 El) (i8 (jc lC (i7 0) (jc aSub (i7 1) (eC (.int 1)))) (i8 (jc lC (i7 0) (jc aSub (i7 2) (eC (.int 1)))) jj))) (jU 4))
 (kg (Qg (jz (f1 Px) (i8 (j8 [none,some 3,some 4] (qi (QL (i7 0) (uH (i7 1)) (uH (jc aSub (i7 2) (eC (.int 1)))))) (jU 0) uS (Ml EW EW (i7 1) (i7 0) (i7 2))) jj)))))
abbrev mT:ad->jd->R A:=lR ur uf
meta abbrev yP:aF:=top 22
meta abbrev yH:am:=["order", "pairs"]
meta abbrev ze:am:=["order", "pairs"]
abbrev zk:Sm:=
 kg (jz (f1 qe) (i8 (j8 [none,none,some 0] (qi (i7 1)) (zH 2 (qM (jU 0) (qM (jU 1) zJ))) (sU (eFn mT (i8 (i7 2) (i8 (i7 0) (i8 (i7 1) jj))))) (eFn jG (i8 (i7 2) (i8 (i7 0) (i8 (i7 1) jj))))) jj))
abbrev sX:ad->jd->R A:=lR yH zk
meta abbrev o6:aF:=top 23
meta abbrev oZ:am:=["order"]
meta abbrev oV:am:=["order"]
abbrev o8:Sm:=
 kg (eFn sX (i8 (i7 0) (i8 (j8 [none,none,some 0] (qi (eFn jP (i8 (jz (f1 mD) (i8 (i7 0) jj)) jj))) (zH 2 (qM (jU 0) (qM (jU 1) zJ))) (nG (jc EW (jc lC (i7 2) (jc aSub (i7 0) (eC (.int 1)))) (jc lC (i7 2) (jc aSub (i7 1) (eC (.int 1)))))) (rJ (i8 (i7 0) (i8 (i7 1) jj)))) jj)))
abbrev k7:ad->jd->R A:=lR oZ o8
meta abbrev uw:aF:=top 24
meta abbrev qO:am:=["one", "other", "looked_at", "waiting", "here", "step"]
meta abbrev tU:am:=["one", "other"]
abbrev oz:Ic:=
 qi (eFn k7 (i8 (i7 4) jj))
abbrev qm:Sm:=
 uK (nG (jc (PR true) (i7 5) (i7 2)))
 (jF (j7 (eFn kH (i8 (i7 5) (i8 (i7 1) jj))) (PK (i7 2) (i7 5)))
 (uK (sU (jc K4 (i7 2) (i7 5)))
 (uQ (QG se (i7 3) (i8 (i7 5) jj)))
 m_))
 m_
abbrev qK:Te:=
 sU (i7 3)
abbrev qD:Sm:=
 jF (j7 (OJ N2 (i7 3)) (jU 4))
 (nV oz (jU 5)
 qm)
abbrev qS:Sm:=
 jF (uQ (eFn kE (i8 (i7 0) (i8 (i7 1) jj))))
 (jF (uQ (eFn k_ (i8 (i7 0) (i8 (i7 1) (i8 (eC (.int 6)) (i8 (eC (.int 9)) (i8 (eC (.int 4)) jj)))))))
 (jF (uK (P6 (sU (eFn kH (i8 (i7 0) (i8 (i7 1) jj)))))
 (kg (rz jj))
 m_)
 (jF (j7 (Jv (i7 0) (eC (.bl true))) (jU 2))
 (jF (j7 (rz (i8 (i7 0) jj)) (jU 3))
 (jF (kT qK
 qD 1000000)
 (kg (jz (f1 qe) (i8 (j8 [none,none] (Fx (i7 2)) (zH 2 (qM (jU 0) (qM (jU 1) zJ))) (sU (i7 1)) (i7 0)) jj))))))))
abbrev nN:ad->jd->R A:=lR qO qS
meta abbrev za:aF:=top 27
meta abbrev yQ:am:=["order", "told", "lower"]
meta abbrev yz:am:=["order"]
abbrev yi:Ic:=
 qi (eFn nN (i8 (eFn k8 (i8 (jz (f1 mD) (i8 (i7 0) jj)) jj)) (i8 (i7 0) jj)))
abbrev yt:Sm:=
 uN (i7 1) (eFn mh (i8 (i7 2) jj)) (eC (.int 1)) BF
abbrev vp:Sm:=
 jF (uK (nG (jc yq (jz (f1 mD) (i8 (i7 0) jj)) (eC (.int 6))))
 (SS)
 m_)
 (jF (j7 (jc sE (rz (i8 (eC (.int 0)) jj)) (jc kW (eFn mh (i8 (i7 0) jj)) (eC (.int 1)))) (jU 1))
 (jF (nV yi (jU 2)
 yt)
 (kg (i7 1))))
abbrev pV:ad->jd->R A:=lR yQ vp
meta abbrev rH:aF:=top 29
meta abbrev rL:am:=["_law_script", "_law_k"]
meta abbrev rZ:am:=["_law_script", "_law_k"]
abbrev r8:Sm:=
 jF (uK (nG (jc EW (i7 1) (jz (f1 mD) (i8 (i7 0) jj))))
 (kg (jc lC (i7 0) (i7 1)))
 m_)
 (kg (eC (.int 0)))
abbrev n8:ad->jd->R A:=lR rL r8
meta abbrev um:aF:=top 30
meta abbrev uc:am:=["_law_cell_here", "_law_place", "_law_far"]
meta abbrev tQ:am:=["_law_cell_here", "_law_place"]
abbrev tZ:Sm:=
 jF (j7 (jz (f1 Qx) (i8 (i7 0) jj)) (jU 2))
 (jF (uK (nG (jc EW (i7 2) (jc PL (eC (.int 10)) (eC (.int 18)))))
 (j7 (eC (.int 0)) (jU 2))
 m_)
 (kg (rz (i8 (i7 2) (i8 (jc zf (jc kW (jc kW (jc sE (jc zf (i7 0) (eC (.int 2147483647))) (eC (.int 69621))) (jc sE (eC (.int 7919)) (i7 1))) (eC (.int 13))) (eC (.int 2147483647))) jj)))))
abbrev pJ:ad->jd->R A:=lR uc tZ
meta abbrev qE:aF:=top 31
meta abbrev qL:am:=["_law_bag_here"]
meta abbrev qH:am:=["_law_bag_here"]
abbrev qF:Sm:=
 jF (j7 (jc zf (jc kW (jc sE (jc lC (i7 0) (eC (.int 1))) (eC (.int 48271))) (eC (.int 11))) (eC (.int 2147483647))) (QE (i7 0) (eC (.int 1))))
 (kg (jc Dk (jc zf (jc sE (jc lC (i7 0) (eC (.int 1))) (eC (.int 16807))) (eC (.int 2147483629))) (eC (.int 8))))
abbrev lK:ad->jd->R A:=lR qL qF
meta abbrev qo:aF:=top 32
meta abbrev oF:am:=["_law_bag_here", "_law_many", "_law_found", "_law_k"]
meta abbrev m9:am:=["_law_bag_here", "_law_many"]
abbrev xD:Ic:=
 pK (eC (.int 7))
abbrev xj:Sm:=
 j7 (jc kW (jc sE (i7 2) (eC (.int 268435399))) (eFn lK (i8 (i7 0) jj))) (jU 2)
abbrev ow:Sm:=
 jF (uK (nG (jc yq (jc lC (i7 0) (eC (.int 0))) (eC (.int 0))))
 (jF (j7 (jc zf (jc lC (i7 0) (eC (.int 0))) (i7 1)) (jU 2))
 (jF (j7 (jc Dk (jc lC (i7 0) (eC (.int 0))) (i7 1)) (QE (i7 0) (eC (.int 0))))
 (kg (i7 2))))
 m_)
 (jF (j7 (eFn lK (i8 (i7 0) jj)) (jU 2))
 (jF (uK (nG (jc yq (i7 1) (eC (.int 1000))))
 (nV xD (jU 3)
 xj)
 m_)
 (kg (jc zf (i7 2) (i7 1)))))
abbrev jy:ad->jd->R A:=lR oF ow
meta abbrev qz:aF:=top 33
meta abbrev qp:am:=["_law_bag_here", "_law_n", "_law_left", "_law_found", "_law_k"]
meta abbrev qA:am:=["_law_bag_here", "_law_n"]
abbrev xE:Ic:=
 pK (i7 1)
abbrev rj:Sm:=
 uQ (QG se (i7 3) (i8 (QG B0 (i7 2) (i8 (eFn jy (i8 (i7 0) (i8 (jz (f1 mD) (i8 (i7 2) jj)) jj))) jj)) jj))
abbrev qB:Sm:=
 jF (j7 (jz (f1 vC) (i8 (jz (f2 tw) (i8 (eC (.int 1)) (i8 (jc kW (i7 1) (eC (.int 1))) jj))) jj)) (jU 2))
 (jF (j7 (rz jj) (jU 3))
 (jF (nV xE (jU 4)
 rj)
 (kg (jz (f1 p6) (i8 (i7 3) jj)))))
abbrev lO:ad->jd->R A:=lR qp qB
meta abbrev nA:aF:=top 34
meta abbrev nB:am:=["_law_order_here", "_law_k"]
meta abbrev lB:am:=["_law_order_here", "_law_k"]
abbrev nE:Sm:=
 kg (jc kW (jc kW (QL (i7 0) Eo (uH (jc aSub (i7 1) (eC (.int 1))))) (rJ (i8 (jc lC (i7 0) (i7 1)) (i8 (jc lC (i7 0) (jc aSub (i7 1) (eC (.int 1)))) jj)))) (QL (i7 0) (uH (jc kW (i7 1) (eC (.int 1)))) Eo))
abbrev jV:ad->jd->R A:=lR nB nE
meta abbrev rK:aF:=top 35
meta abbrev rX:am:=["_law_bag_here", "_law_n", "_law_most", "_law_found", "_law_turn", "_law_k"]
meta abbrev rB:am:=["_law_bag_here", "_law_n", "_law_most"]
abbrev sQ:Ic:=
 pK (eFn jy (i8 (i7 0) (i8 (jc kW (i7 2) (eC (.int 1))) jj)))
abbrev r_:Sm:=
 jF (j7 (jc kW (eC (.int 1)) (eFn jy (i8 (i7 0) (i8 (jc aSub (i7 1) (eC (.int 1))) jj)))) (jU 5))
 (uK (nG (jc EW (jc lC (i7 3) (jc aSub (i7 5) (eC (.int 1)))) (jc lC (i7 3) (i7 5))))
 (j7 (eFn jV (i8 (i7 3) (i8 (i7 5) jj))) (jU 3))
 m_)
abbrev r6:Sm:=
 jF (j7 (jz (f1 p6) (i8 (jz (f2 tw) (i8 (eC (.int 1)) (i8 (jc kW (i7 1) (eC (.int 1))) jj))) jj)) (jU 3))
 (jF (nV sQ (jU 4)
 r_)
 (kg (i7 3)))
abbrev mR:ad->jd->R A:=lR rX r6
meta abbrev rR:aF:=top 36
meta abbrev rG:am:=["_law_order_here", "_law_word_here", "_law_downs"]
meta abbrev rP:am:=["_law_order_here"]
abbrev nM:Te:=
 nG (jc (qg true) (i7 2) (rz jj))
abbrev pY:Sm:=
 jF (j7 (eFn jV (i8 (i7 0) (i8 (jc lC (i7 2) (Bj zF (eC (.int 1)))) jj))) (jU 0))
 (jF (uQ (QG se (i7 1) (i8 (jc lC (i7 2) (Bj zF (eC (.int 1)))) jj)))
 (j7 (j8 [none,some 0] (ng (eC (.int 1)) (jz (f1 mD) (i8 (i7 0) jj))) (jU 0) (nG (jc yq (jc lC (i7 1) (jc aSub (i7 0) (eC (.int 1)))) (jc lC (i7 1) (i7 0)))) (i7 0)) (jU 2)))
abbrev rC:Sm:=
 jF (j7 (rz jj) (jU 1))
 (jF (j7 (j8 [none,some 0] (ng (eC (.int 1)) (jz (f1 mD) (i8 (i7 0) jj))) (jU 0) (nG (jc yq (jc lC (i7 1) (jc aSub (i7 0) (eC (.int 1)))) (jc lC (i7 1) (i7 0)))) (i7 0)) (jU 2))
 (jF (kT nM
 pY 1000000)
 (kg (Bj xG (i7 1)))))
abbrev kK:ad->jd->R A:=lR rG rC
meta abbrev pZ:aF:=top 37
meta abbrev p7:am:=["_law_four", "_law_some_here"]
meta abbrev pW:am:=["_law_four"]
abbrev p_:Sm:=
 jF (j7 (jz (f1 qe) (i8 (i7 0) jj)) (jU 1))
 (kg (jc (Uc false) (j8 [none,some 1] (qi (i7 0)) (jU 0) uS (F2 (i7 1) (i8 (i7 0) jj))) (rz (i8 (rz (i8 (eC (.int 2)) (i8 (eC (.int 3)) (i8 (eC (.int 0)) (i8 (eC (.int 1)) jj))))) (i8 (rz (i8 (eC (.int 3)) (i8 (eC (.int 1)) (i8 (eC (.int 2)) (i8 (eC (.int 0)) jj))))) jj)))))
abbrev lZ:ad->jd->R A:=lR p7 p_
meta abbrev nW:aF:=top 38
meta abbrev nR:am:=["_law_order_here", "_law_n", "_law_i", "_law_j", "_law_k", "_law_m"]
meta abbrev nX:am:=["_law_order_here"]
abbrev mK:Ic:=
 ng (jc kW (i7 4) (eC (.int 1))) (i7 1)
abbrev mS:Sm:=
 uK (sU (eFn lZ (i8 (rz (i8 (jc lC (i7 0) (i7 2)) (i8 (jc lC (i7 0) (i7 3)) (i8 (jc lC (i7 0) (i7 4)) (i8 (jc lC (i7 0) (i7 5)) jj))))) jj)))
 (kg (rJ (i8 (jc kW (i7 2) (eC (.int 1))) (i8 (jc kW (i7 3) (eC (.int 1))) (i8 (jc kW (i7 4) (eC (.int 1))) (i8 (jc kW (i7 5) (eC (.int 1))) jj))))))
 m_
abbrev mL:Ic:=
 ng (jc kW (i7 3) (eC (.int 1))) (i7 1)
abbrev mU:Sm:=
 nV mK (jU 5)
 mS
abbrev mY:Ic:=
 ng (jc kW (i7 2) (eC (.int 1))) (i7 1)
abbrev mG:Sm:=
 nV mL (jU 4)
 mU
abbrev pF:Ic:=
 pK (i7 1)
abbrev pI:Sm:=
 nV mY (jU 3)
 mG
abbrev oh:Sm:=
 jF (j7 (jz (f1 mD) (i8 (i7 0) jj)) (jU 1))
 (jF (nV pF (jU 2)
 pI)
 (kg (eC .non)))
abbrev jT:ad->jd->R A:=lR nR oh
meta abbrev Jk:aF:=top 39
meta abbrev Ja:am:=["_law_script", "_law_k", "_law_bag_here", "_law_n", "_law_order_here", "_law_found"]
meta abbrev ND:am:=["_law_script"]
abbrev CQ:Ic:=
 pK (jz (f2 El) (i8 (eC (.int 2)) (i8 (jz (f2 Cr) (i8 (jz (f1 mD) (i8 (i7 0) jj)) (i8 (eC (.int 4)) jj))) jj)))
abbrev EO:Sm:=
 jF (j7 (eFn pJ (i8 (eFn n8 (i8 (i7 0) (i8 (i7 1) jj))) (i8 (jc kW (eC (.int 1)) (i7 1)) jj))) (jU 2))
 (jF (j7 (jc lC (rz (i8 (eC (.int 5)) (i8 (eC (.int 4)) (i8 (eC (.int 5)) (i8 (eC (.int 3)) (i8 (eC (.int 2)) (i8 (eC (.int 1)) (i8 (eC (.int 5)) (i8 (eC (.int 4)) jj))))))))) (eFn jy (i8 (i7 2) (i8 (eC (.int 8)) jj)))) (jU 3))
 (jF (uK (nG (jc (qg false) (eFn jy (i8 (i7 2) (i8 (eC (.int 4)) jj))) (eC (.int 3))))
 (j7 (eC (.int 6)) (jU 3))
 m_)
 (jF (j7 (eFn lO (i8 (i7 2) (i8 (i7 3) jj))) (jU 4))
 (jF (uK (AK (nG (jc yq (i7 3) (eC (.int 1)))) (nG (jc (qg false) (eFn jy (i8 (i7 2) (i8 (eC (.int 4)) jj))) (eC (.int 3)))))
 (j7 (eFn mR (i8 (i7 2) (i8 (i7 3) (i8 (eC (.int 7)) jj)))) (jU 4))
 m_)
 (jF (j7 (eFn pV (i8 (i7 4) jj)) (jU 5))
 (jF (uK (F_ (nG (jc (qg true) (jc (qg false) (i7 5) (Bj xG (i7 5))) (jc (zo false) (eFn jT (i8 (i7 4) jj)) (eC .non)))) (F_ (nG (jc (qg true) (jc lC (i7 5) (eC (.int 0))) (eC (.int 1)))) (nG (jc (qg true) (jc lC (i7 5) (Bj zF (eC (.int 1)))) (eC (.int 1))))))
 (kg (eC (.bl false)))
 m_)
 (uK (AK (nG (jc yq (jz (f1 mD) (i8 (i7 5) jj)) (eC (.int 1)))) (nG (jc (qg true) (jc lC (i7 5) (eC (.int 1))) (FU (eFn kK (i8 (i7 4) jj))))))
 (kg (eC (.bl false)))
 m_)))))))
abbrev Jm:Sm:=
 jF (nV CQ (jU 1)
 EO)
 (kg (eC (.bl true)))
abbrev yg:ad->jd->R A:=lR Ja Jm
section
variable {P:aj}{w:ah}{K:au}{mg:Str->ba}{base:aq}{f:ak}{fd:FuncData}
def vZ:FnScope oJ oY (jo o_):=uO rfl rfl rfl ∅
def wB(F:Fun K "plain_order" "plain_order" o_ f fd)(We:mg "tuple" = none)(Wc:mg "range" = none):FnOk P w K mg base qk 1 f fd oY (rf K 1 k8):=uF (m:=pq) F vZ λcdv B outer s H E hr=>
 ji (jH (lU (u7 rfl) We tu (i9 (lU wJ Wc wj (i9 ja (i9 (jm kC (i6 0) ja) jk))) jk)))
def zC:FnScope qt om (jo qI):=uO rfl rfl rfl ∅
def zx(F:Fun K "need_pair" "need_pair" qI f fd)(Wb:mg "len" = none):FnOk P w K mg base qk 1 f fd om (rf K 2 kE):=uF (m:=qw) F zC λcdv B outer s H E hr=>
 ji (mE (jR (E7 hr.units) (jt mF Wb ko (i9 (i6 0) jk)) (jt mF Wb ko (i9 (i6 1) jk)))
 (ji (JC))
 jX)
def nF:FnScope lH lI (jo lJ):=uO rfl rfl rfl ∅
def qZ(F:Fun K "exchanged_places" "exchanged_places" lJ f fd)(Wj:mg "list" = none)(We:mg "tuple" = none):FnOk P w K mg base qk 1 f fd lI (rf K 3 jG):=uF (m:=lG) F nF λcdv B outer s H E hr=>
 jf (jL (i:=3) nF.nd (lU (JZ rfl) Wj C7 (i9 (i6 0) jk)))
 (jf (zj (rF (i9 (jM (i6 3) (jm kZ (i6 2) ja)) (i9 (jM (i6 3) (jm kZ (i6 1) ja)) jk))) (w9 rfl (k6 (yK (i6 3) (jm kZ (i6 1) ja)) (k6 (yK (i6 3) (jm kZ (i6 2) ja)) tF))))
 (ji (jH (lU (u7 rfl) We tu (i9 (i6 3) jk)))))
def wH:FnScope oS m5 (jo oH):=uO rfl rfl rfl ∅
def w4(F:Fun K "place_pairs" "place_pairs" oH f fd)(Wc:mg "range" = none):FnOk P w K mg base qk 1 f fd m5 (rf K 1 jP):=uF (m:=oO) F wH λcdv B outer s H E hr=>
 ji (jH (Gi (N:=["i", "j", "n"]) (cap:=[none,none,some 0]) rfl (sV ["n"] rfl ∅ ∅ ∅ ∅ ∅ (cH.mpr ⟨by first|exact Or.inl rfl|exact Or.inr rfl,(nofun)⟩) ⟨rfl,by decide +kernel,trivial⟩) (mZ Wc ja (i6 0)) (λ_ _ _ _=>jC (i:=0) (show(["i", "j", "n"]:am).Nodup by decide +kernel) rfl (Or.inl rfl) (.inr rfl)) (λ_ _ _ _=>vd) (λ_ _ _ _=>mZ Wc (jm kC (i6 0) ja) (jm kC (i6 2) ja)) (λ_ _ _ _=>jC (i:=1) (show(["i", "j", "n"]:am).Nodup by decide +kernel) rfl (Or.inl rfl) (.inr rfl)) (λ_ _ _ _=>vd) (λ_ _ _ _=>rF (i9 (i6 0) (i9 (i6 1) jk)))))
def vt:FnScope oK oQ (jo oX):=uO rfl rfl rfl ∅
def wm(F:Fun K "wrong_pairs" "wrong_pairs" oX f fd)(Wb:mg "len" = none)(Wk:ql P w K mg base 1 "place_pairs" m5 jP):FnOk P w K mg base qk 2 f fd oQ (rf K 1 k9):=uF (m:=oW) F vt λcdv B outer s H E hr=>
 ji (jH (qR (N:=["i", "j", "order"]) (cap:=[none,none,some 0]) rfl (sV ["order"] rfl ∅ ∅ ∅ ∅ ∅ (cH.mpr ⟨by first|exact Or.inl rfl|exact Or.inr rfl,(nofun)⟩) ⟨rfl,by decide +kernel,trivial⟩) (rT (Bk Wk hr (jt mF Wb ko (i9 (i6 0) jk)))) (λ_ _ _ _=>w9 rfl (k6 (jC (i:=0) (show(["i", "j", "order"]:am).Nodup by decide +kernel) rfl (Or.inl rfl) (.inr rfl)) (k6 (jC (i:=1) (show(["i", "j", "order"]:am).Nodup by decide +kernel) rfl (Or.inl rfl) (.inr rfl)) tF))) (λ_ _ _ _=>qQ (jR (wO hr.units) (jM (i6 2) (jm kZ (i6 0) ja)) (jM (i6 2) (jm kZ (i6 1) ja)))) (λ_ _ _ _=>rF (i9 (i6 0) (i9 (i6 1) jk)))))
def Fv:FnScope vK sY (jo wu):=uO rfl rfl rfl ∅
def F6(F:Fun K "length" "length" wu f fd)(Wb:mg "len" = none)(Wr:ql P w K mg base 2 "wrong_pairs" oQ k9):FnOk P w K mg base qk 3 f fd sY (rf K 1 mh):=uF (m:=wW) F Fv λcdv B outer s H E hr=>
 ji (jH (jt mF Wb ko (i9 (Bk Wr hr (i6 0)) jk)))
def kB:FnScope kL kG (jo kN):=uO rfl rfl rfl ∅
def qj(F:Fun K "first_above_nought" "first_above_nought" kN f fd):FnOk P w K mg base qk 1 f fd kG (rf K 1 jS):=uF (m:=kJ) F kB λcdv B outer s H E hr=>
 jf (jL (i:=1) kB.nd ja)
 (jf (vN 1000000 bU (jR Rc (jM (i6 0) (jm kZ (i6 1) ja)) ja)
 (ji (Qq (i:=1) kB.nd ja yy)))
 (ji (jH (i6 1))))
def vU:FnScope Kh KC (jo JU):=uO rfl rfl rfl ∅
def PU(F:Fun K "bar" "bar" JU f fd)(Wb:mg "len" = none)(Wc:mg "range" = none)(Wg:mg "max" = none)(Wl:ql P w K mg base 1 "need_pair" om kE)(Ws:ql P w K mg base 1 "first_above_nought" kG jS):FnOk P w K mg base qk 2 f fd KC (rf K 2 ym):=uF (m:=Hv) F vU λcdv B outer s H E hr=>
 jf (qU (zG Wl hr (i6 0) (i6 1)))
 (jf (jL (i:=2) vU.nd (jm wC (mQ (i9 ja jk)) (jt mF Wb ko (i9 (i6 0) jk))))
 (jf (mP bU rfl (lQ Wc (jt mF Wb ko (i9 (i6 0) jk))) (jC (i:=3) vU.nd)
 (jf (mP bU rfl (lQ Wc (jM (i6 0) (i6 3))) (jC (i:=4) vU.nd)
 (ji (zh (i6 2) (i6 4) ja yy)))
 (jf (mP bU rfl (lQ Wc (jM (i6 1) (i6 3))) (jC (i:=4) vU.nd)
 (ji (zh (i6 2) (i6 4) ja Lg)))
 (ji (mE (jR (wO hr.units) (jt (Ov rfl) Wg BE (i9 (i6 2) jk)) ja)
 (ji (jH (rF (i9 (jm kC (i6 3) ja) (i9 (Bk Ws hr (i6 2)) jk)))))
 jX)))))
 (ji (jH (zy)))))
def zO:FnScope pS rV (jo rW):=uO rfl rfl rfl ∅
def Bh(F:Fun K "is_below" "is_below" rW f fd)(Wt:ql P w K mg base 2 "bar" KC ym):FnOk P w K mg base qk 3 f fd rV (rf K 2 kH):=uF (m:=pR) F zO λcdv B outer s H E hr=>
 ji (jH (yU Sj (zG Wt hr (i6 0) (i6 1)) (zy)))
def vG:FnScope o5 oR (jo oU):=uO rfl rfl rfl ∅
def wz(F:Fun K "need_bounds" "need_bounds" oU f fd)(Wb:mg "len" = none)(Wi:ql P w K mg base 3 "length" sY mh):FnOk P w K mg base qk 4 f fd oR (rf K 5 k_):=uF (m:=oG) F vG λcdv B outer s H E hr=>
 jf (mE (jR Rc (jt mF Wb ko (i9 (i6 0) jk)) (i6 2))
 (ji (Mm))
 jX)
 (ji (mE (AW.at (Il (jR (wO hr.units) (jt mF Wb ko (i9 (i6 0) jk)) (i6 3)) (Gs (jR (wO hr.units) (jm kZ (Bk Wi hr (i6 1)) (Bk Wi hr (i6 0))) (i6 4)))))
 (ji (JC))
 jX))
def rO:FnScope ur uq (jo tK):=uO rfl rfl rfl ∅
def BU(F:Fun K "is_step" "is_step" tK f fd)(Wm:mg "min" = none)(Wg:mg "max" = none)(Wu:mg "any" = none):FnOk P w K mg base qk 1 f fd uq (rf K 3 mT):=uF (m:=uf) F rO λcdv B outer s H E hr=>
 jf (jL (i:=3) rO.nd (jt (Hf rfl) Wm IB (i9 (jM (i6 0) (jm kZ (i6 1) ja)) (i9 (jM (i6 0) (jm kZ (i6 2) ja)) jk))))
 (jf (jL (i:=4) rO.nd (jt (Gy rfl) Wg BE (i9 (jM (i6 0) (jm kZ (i6 1) ja)) (i9 (jM (i6 0) (jm kZ (i6 2) ja)) jk))))
 (ji (jH (Qj (jt (Sb rfl) Wu OE (i9 (qR (N:=["thing", "low", "high"]) (cap:=[none,some 3,some 4]) rfl (sV ["low", "high"] rfl ∅ ∅ ∅ ∅ ∅ (cH.mpr ⟨by first|exact Or.inl rfl|exact Or.inr rfl,(cH.mpr ⟨by first|exact Or.inl rfl|exact Or.inr rfl,(nofun)⟩)⟩) ⟨rfl,by decide +kernel,⟨rfl,by decide +kernel,trivial⟩⟩) (rT (IT (i6 0) (vj (i6 1)) (vj (jm kZ (i6 2) ja)))) (λ_ _ _ _=>jC (i:=0) (show(["thing", "low", "high"]:am).Nodup by decide +kernel) rfl (Or.inl rfl) (.inr rfl)) (λ_ _ _ _=>vd) (λ_ _ _ _=>Q_ (FE hr.units) (FE hr.units) (i6 1) (i6 0) (i6 2))) jk))))))
def IZ:FnScope yH ze (jo yP):=uO rfl rfl rfl ∅
def G1(F:Fun K "steps" "steps" yP f fd)(Wh:mg "sorted" = none)(Wv:ql P w K mg base 1 "is_step" uq mT)(Ww:ql P w K mg base 1 "exchanged_places" lI jG):FnOk P w K mg base qk 2 f fd ze (rf K 2 sX):=uF (m:=zk) F IZ λcdv B outer s H E hr=>
 ji (jH (jt Bx Wh tV (i9 (qR (N:=["i", "j", "order"]) (cap:=[none,none,some 0]) rfl (sV ["order"] rfl ∅ ∅ ∅ ∅ ∅ (cH.mpr ⟨by first|exact Or.inl rfl|exact Or.inr rfl,(nofun)⟩) ⟨rfl,by decide +kernel,trivial⟩) (rT (i6 1)) (λ_ _ _ _=>w9 rfl (k6 (jC (i:=0) (show(["i", "j", "order"]:am).Nodup by decide +kernel) rfl (Or.inl rfl) (.inr rfl)) (k6 (jC (i:=1) (show(["i", "j", "order"]:am).Nodup by decide +kernel) rfl (Or.inl rfl) (.inr rfl)) tF))) (λ_ _ _ _=>qQ (t6 (Tu Wv hr (i6 2) (i6 0) (i6 1)))) (λ_ _ _ _=>Tu Ww hr (i6 2) (i6 0) (i6 1))) jk)))
def vF:FnScope oZ oV (jo o6):=uO rfl rfl rfl ∅
def wF(F:Fun K "steps_above" "steps_above" o6 f fd)(Wb:mg "len" = none)(Wx:ql P w K mg base 2 "steps" ze sX)(Wk:ql P w K mg base 1 "place_pairs" m5 jP):FnOk P w K mg base qk 3 f fd oV (rf K 1 k7):=uF (m:=o8) F vF λcdv B outer s H E hr=>
 ji (jH (zG Wx hr (i6 0) (qR (N:=["i", "j", "order"]) (cap:=[none,none,some 0]) rfl (sV ["order"] rfl ∅ ∅ ∅ ∅ ∅ (cH.mpr ⟨by first|exact Or.inl rfl|exact Or.inr rfl,(nofun)⟩) ⟨rfl,by decide +kernel,trivial⟩) (rT (Bk Wk hr (jt mF Wb ko (i9 (i6 0) jk)))) (λ_ _ _ _=>w9 rfl (k6 (jC (i:=0) (show(["i", "j", "order"]:am).Nodup by decide +kernel) rfl (Or.inl rfl) (.inr rfl)) (k6 (jC (i:=1) (show(["i", "j", "order"]:am).Nodup by decide +kernel) rfl (Or.inl rfl) (.inr rfl)) tF))) (λ_ _ _ _=>qQ (jR (FE hr.units) (jM (i6 2) (jm kZ (i6 0) ja)) (jM (i6 2) (jm kZ (i6 1) ja)))) (λ_ _ _ _=>rF (i9 (i6 0) (i9 (i6 1) jk))))))
def n_:FnScope qO tU (jo uw):=uO rfl rfl rfl ∅
def Cj(F:Fun K "between" "between" uw f fd)(Wh:mg "sorted" = none)(Wy:∃t,mg "MOST_CLIMBED_PAIRS" = some (.int 4 t))(Wz:∃t,mg "MOST_CLIMBED_THINGS" = some (.int 9 t))(WA:∃t,mg "MOST_THINGS_chains" = some (.int 6 t))(Wl:ql P w K mg base 1 "need_pair" om kE)(WB:ql P w K mg base 4 "need_bounds" oR k_)(Wo:ql P w K mg base 3 "is_below" rV kH)(WC:ql P w K mg base 3 "steps_above" oV k7):FnOk P w K mg base qk 5 f fd tU (rf K 2 nN):=uF (m:=qS) F n_ λcdv B outer s H E hr=>
 jf (qU (zG Wl hr (i6 0) (i6 1)))
 (jf (qU (CG WB (hr.mono ⋯) (i9 (i6 0) (i9 (i6 1) (i9 (s_ WA.choose_spec) (i9 (s_ Wz.choose_spec) (i9 (s_ Wy.choose_spec) jk))))) (kF (kF (kF (kF (kF uZ)))))))
 (jf (mE (Oq (t6 (zG Wo hr (i6 0) (i6 1))))
 (ji (jH (mQ jk)))
 jX)
 (jf (jL (i:=2) n_.nd (LC hr.units (i6 0) C_))
 (jf (jL (i:=3) n_.nd (mQ (i9 (i6 0) jk)))
 (jf (vN 1000000 bU (t6 (i6 3))
 (jf (jL (i:=4) n_.nd (Ox PySem.F.slot_list_pop PySem.F.type_list_pop Rq (i6 3)))
 (ji (mP bU rfl (rT (Bk WC hr (i6 4))) (jC (i:=5) n_.nd)
 (ji (mE (jR (GR hr.units) (i6 5) (i6 2))
 (jf (zj (zG Wo hr (i6 5) (i6 1)) (Lv hr.units (i6 2) (i6 5)))
 (ji (mE (t6 (Oo hr.units (i6 2) (i6 5)))
 (ji (qU (CT fS fU vA (i6 3) (i9 (i6 5) jk))))
 jX)))
 jX))))))
 (ji (jH (jt Bx Wh tV (i9 (qR (N:=["order", "is_between"]) (cap:=[none,none]) rfl (sV [] rfl ∅ ∅ ∅ ∅ ∅ (nofun) trivial) (J1 (i6 2)) (λ_ _ _ _=>w9 rfl (k6 (jC (i:=0) (show(["order", "is_between"]:am).Nodup by decide +kernel) rfl (Or.inl rfl) (.inr rfl)) (k6 (jC (i:=1) (show(["order", "is_between"]:am).Nodup by decide +kernel) rfl (Or.inl rfl) (.inr rfl)) tF))) (λ_ _ _ _=>qQ (t6 (i6 1))) (λ_ _ _ _=>i6 0)) jk)))))))))
def wX:FnScope yQ yz (jo za):=uO rfl rfl rfl ∅
def Ju(F:Fun K "count" "count" za f fd)(Wb:mg "len" = none)(WD:∃t,mg "MOST_THINGS_counts" = some (.int 6 t))(Wi:ql P w K mg base 3 "length" sY mh)(WE:ql P w K mg base 5 "between" tU nN)(WG:ql P w K mg base 1 "plain_order" oY k8):FnOk P w K mg base qk 6 f fd yz (rf K 1 pV):=uF (m:=vp) F wX λcdv B outer s H E hr=>
 jf (mE (jR (wO hr.units) (jt mF Wb ko (i9 (i6 0) jk)) (s_ WD.choose_spec))
 (ji (JC))
 jX)
 (jf (jL (i:=1) wX.nd (jm wC (mQ (i9 ja jk)) (jm kC (Bk Wi hr (i6 0)) ja)))
 (jf (mP bU rfl (rT (zG WE hr (Bk WG hr (jt mF Wb ko (i9 (i6 0) jk))) (i6 0))) (jC (i:=2) wX.nd)
 (ji (zh (i6 1) (Bk Wi hr (i6 2)) ja yy)))
 (ji (jH (i6 1)))))
def A9:FnScope rL rZ (jo rH):=uO rfl rfl rfl ∅
def zX(F:Fun K "_law_cell" "_law_cell" rH f fd)(Wb:mg "len" = none):FnOk P w K mg base qk 1 f fd rZ (rf K 2 n8):=uF (m:=r8) F A9 λcdv B outer s H E hr=>
 jf (mE (jR (FE hr.units) (i6 1) (jt mF Wb ko (i9 (i6 0) jk)))
 (ji (jH (jM (i6 0) (i6 1))))
 jX)
 (ji (jH ja))
def rQ:FnScope uc tQ (jo um):=uO rfl rfl rfl ∅
def Bs(F:Fun K "_law_bag" "_law_bag" um f fd)(WH:mg "abs" = none):FnOk P w K mg base qk 1 f fd tQ (rf K 2 pJ):=uF (m:=tZ) F rQ λcdv B outer s H E hr=>
 jf (jL (i:=2) rQ.nd (jt RW WH Ot (i9 (i6 0) jk)))
 (jf (mE (jR (FE hr.units) (i6 2) (jm Rm ja ja))
 (ji (jL (i:=2) rQ.nd ja))
 jX)
 (ji (jH (mQ (i9 (i6 2) (i9 (jm xW (jm kC (jm kC (jm wC (jm xW (i6 0) ja) ja) (jm wC ja (i6 1))) ja) ja) jk))))))
def yS:FnScope qL qH (jo qE):=uO rfl rfl rfl ∅
def yD(F:Fun K "_law_mixed" "_law_mixed" qE f fd):FnOk P w K mg base qk 1 f fd qH (rf K 1 lK):=uF (m:=qF) F yS λcdv B outer s H E hr=>
 jf (zj (jm xW (jm kC (jm wC (jM (i6 0) ja) ja) ja) ja) (yK (i6 0) ja))
 (ji (jH (jm Ib (jm xW (jm wC (jM (i6 0) ja) ja) ja) ja)))
def l9:FnScope oF m9 (jo qo):=uO rfl rfl rfl ∅
def zb(F:Fun K "_law_digit" "_law_digit" qo f fd)(Wc:mg "range" = none)(Wq:ql P w K mg base 1 "_law_mixed" qH lK):FnOk P w K mg base qk 2 f fd m9 (rf K 2 jy):=uF (m:=ow) F l9 λcdv B outer s H E hr=>
 jf (mE (jR (wO hr.units) (jM (i6 0) ja) ja)
 (jf (jL (i:=2) l9.nd (jm xW (jM (i6 0) ja) (i6 1)))
 (jf (zj (jm Ib (jM (i6 0) ja) (i6 1)) (yK (i6 0) ja))
 (ji (jH (i6 2)))))
 jX)
 (jf (jL (i:=2) l9.nd (Bk Wq hr (i6 0)))
 (jf (mE (jR (wO hr.units) (i6 1) ja)
 (ji (mP bU rfl (lQ Wc ja) (jC (i:=3) l9.nd)
 (ji (jL (i:=2) l9.nd (jm kC (jm wC (i6 2) ja) (Bk Wq hr (i6 0)))))))
 jX)
 (ji (jH (jm xW (i6 2) (i6 1))))))
def nI:FnScope qp qA (jo qz):=uO rfl rfl rfl ∅
def zq(F:Fun K "_law_order" "_law_order" qz f fd)(Wj:mg "list" = none)(Wc:mg "range" = none)(Wb:mg "len" = none)(We:mg "tuple" = none)(Wf:ql P w K mg base 2 "_law_digit" m9 jy):FnOk P w K mg base qk 3 f fd qA (rf K 2 lO):=uF (m:=qB) F nI λcdv B outer s H E hr=>
 jf (jL (i:=2) nI.nd (lU (JZ rfl) Wj C7 (i9 (lU wJ Wc wj (i9 ja (i9 (jm kC (i6 1) ja) jk))) jk)))
 (jf (jL (i:=3) nI.nd (mQ jk))
 (jf (mP bU rfl (lQ Wc (i6 1)) (jC (i:=4) nI.nd)
 (ji (qU (CT fS fU vA (i6 3) (i9 (CT PySem.F.slot_list_pop PySem.F.type_list_pop Mw (i6 2) (i9 (zG Wf hr (i6 0) (jt mF Wb ko (i9 (i6 2) jk))) jk)) jk)))))
 (ji (jH (lU (u7 rfl) We tu (i9 (i6 3) jk))))))
def uz:FnScope nB lB (jo nA):=uO rfl rfl rfl ∅
def tR(F:Fun K "_law_exchanged" "_law_exchanged" nA f fd):FnOk P w K mg base qk 1 f fd lB (rf K 2 jV):=uF (m:=nE) F uz λcdv B outer s H E hr=>
 ji (jH (jm kC (jm kC (IT (i6 0) Dz (vj (jm kZ (i6 1) ja))) (rF (i9 (jM (i6 0) (i6 1)) (i9 (jM (i6 0) (jm kZ (i6 1) ja)) jk)))) (IT (i6 0) (vj (jm kC (i6 1) ja)) Dz)))
def nj:FnScope rX rB (jo rK):=uO rfl rfl rfl ∅
def Aj(F:Fun K "_law_some" "_law_some" rK f fd)(We:mg "tuple" = none)(Wc:mg "range" = none)(Wf:ql P w K mg base 2 "_law_digit" m9 jy)(Wn:ql P w K mg base 1 "_law_exchanged" lB jV):FnOk P w K mg base qk 3 f fd rB (rf K 3 mR):=uF (m:=r6) F nj λcdv B outer s H E hr=>
 jf (jL (i:=3) nj.nd (lU (u7 rfl) We tu (i9 (lU wJ Wc wj (i9 ja (i9 (jm kC (i6 1) ja) jk))) jk)))
 (jf (mP bU rfl (lQ Wc (zG Wf hr (i6 0) (jm kC (i6 2) ja))) (jC (i:=4) nj.nd)
 (jf (jL (i:=5) nj.nd (jm kC ja (zG Wf hr (i6 0) (jm kZ (i6 1) ja))))
 (ji (mE (jR (FE hr.units) (jM (i6 3) (jm kZ (i6 5) ja)) (jM (i6 3) (i6 5)))
 (ji (jL (i:=3) nj.nd (zG Wn hr (i6 3) (i6 5))))
 jX))))
 (ji (jH (i6 3))))
def nk:FnScope rG rP (jo rR):=uO rfl rfl rfl ∅
def Ak(F:Fun K "_law_word" "_law_word" rR f fd)(Wc:mg "range" = none)(Wb:mg "len" = none)(Wn:ql P w K mg base 1 "_law_exchanged" lB jV):FnOk P w K mg base qk 2 f fd rP (rf K 1 kK):=uF (m:=rC) F nk λcdv B outer s H E hr=>
 jf (jL (i:=1) nk.nd (mQ jk))
 (jf (DT (i:=2) (N:=["_law_k", "_law_order_here"]) (cap:=[none,some 0]) nk.nd rfl (sV ["_law_order_here"] rfl ∅ ∅ ∅ ∅ ∅ (cH.mpr ⟨by first|exact Or.inl rfl|exact Or.inr rfl,(nofun)⟩) ⟨rfl,by decide +kernel,trivial⟩) (mZ Wc ja (jt mF Wb ko (i9 (i6 0) jk))) (λ_ _ _ _=>jC (i:=0) (show(["_law_k", "_law_order_here"]:am).Nodup by decide +kernel) rfl (Or.inl rfl) (.inr rfl)) (λ_ _ _ _=>qQ (jR (wO hr.units) (jM (i6 1) (jm kZ (i6 0) ja)) (jM (i6 1) (i6 0)))) (λ_ _ _ _=>i6 0))
 (jf (vN 1000000 bU (jR (E7 hr.units) (i6 2) (mQ jk))
 (jf (jL (i:=0) nk.nd (zG Wn hr (i6 0) (jM (i6 2) (Ci ja))))
 (jf (qU (CT fS fU vA (i6 1) (i9 (jM (i6 2) (Ci ja)) jk)))
 (ji (DT (i:=2) (N:=["_law_k", "_law_order_here"]) (cap:=[none,some 0]) nk.nd rfl (sV ["_law_order_here"] rfl ∅ ∅ ∅ ∅ ∅ (cH.mpr ⟨by first|exact Or.inl rfl|exact Or.inr rfl,(nofun)⟩) ⟨rfl,by decide +kernel,trivial⟩) (mZ Wc ja (jt mF Wb ko (i9 (i6 0) jk))) (λ_ _ _ _=>jC (i:=0) (show(["_law_k", "_law_order_here"]:am).Nodup by decide +kernel) rfl (Or.inl rfl) (.inr rfl)) (λ_ _ _ _=>qQ (jR (wO hr.units) (jM (i6 1) (jm kZ (i6 0) ja)) (jM (i6 1) (i6 0)))) (λ_ _ _ _=>i6 0))))))
 (ji (jH (Gx (i6 1))))))
def rq:FnScope p7 pW (jo pZ):=uO rfl rfl rfl ∅
def xB(F:Fun K "_law_stands" "_law_stands" pZ f fd)(Wh:mg "sorted" = none):FnOk P w K mg base qk 1 f fd pW (rf K 1 lZ):=uF (m:=p_) F rq λcdv B outer s H E hr=>
 jf (jL (i:=1) rq.nd (jt Bx Wh tV (i9 (i6 0) jk)))
 (ji (jH (yU (T5 hr.units) (qR (N:=["_law_thing", "_law_some_here"]) (cap:=[none,some 1]) rfl (sV ["_law_some_here"] rfl ∅ ∅ ∅ ∅ ∅ (cH.mpr ⟨by first|exact Or.inl rfl|exact Or.inr rfl,(nofun)⟩) ⟨rfl,by decide +kernel,trivial⟩) (rT (i6 0)) (λ_ _ _ _=>jC (i:=0) (show(["_law_thing", "_law_some_here"]:am).Nodup by decide +kernel) rfl (Or.inl rfl) (.inr rfl)) (λ_ _ _ _=>vd) (λ_ _ _ _=>Pw (i6 1) (i9 (i6 0) jk))) (mQ (i9 (mQ (i9 ja (i9 ja (i9 ja (i9 ja jk))))) (i9 (mQ (i9 ja (i9 ja (i9 ja (i9 ja jk))))) jk))))))
def jZ:FnScope nR nX (jo nW):=uO rfl rfl rfl ∅
def uU(F:Fun K "_law_has_four" "_law_has_four" nW f fd)(Wb:mg "len" = none)(Wc:mg "range" = none)(WI:ql P w K mg base 1 "_law_stands" pW lZ):FnOk P w K mg base qk 2 f fd nX (rf K 1 jT):=uF (m:=oh) F jZ λcdv B outer s H E hr=>
 jf (jL (i:=1) jZ.nd (jt mF Wb ko (i9 (i6 0) jk)))
 (jf (mP bU rfl (lQ Wc (i6 1)) (jC (i:=2) jZ.nd)
 (ji (mP bU rfl (mZ Wc (jm kC (i6 2) ja) (i6 1)) (jC (i:=3) jZ.nd)
 (ji (mP bU rfl (mZ Wc (jm kC (i6 3) ja) (i6 1)) (jC (i:=4) jZ.nd)
 (ji (mP bU rfl (mZ Wc (jm kC (i6 4) ja) (i6 1)) (jC (i:=5) jZ.nd)
 (ji (mE (t6 (Bk WI hr (mQ (i9 (jM (i6 0) (i6 2)) (i9 (jM (i6 0) (i6 3)) (i9 (jM (i6 0) (i6 4)) (i9 (jM (i6 0) (i6 5)) jk)))))))
 (ji (jH (rF (i9 (jm kC (i6 2) ja) (i9 (jm kC (i6 3) ja) (i9 (jm kC (i6 4) ja) (i9 (jm kC (i6 5) ja) jk)))))))
 jX)))))))))
 (ji (jH (zy))))
def qJ:FnScope Ja ND (jo Jk):=uO rfl rfl rfl ∅
set_option smartUnfolding false in
theorem NN(F:Fun K "law" "law" Jk f fd)(Wc:mg "range" = none)(Wg:mg "max" = none)(Wm:mg "min" = none)(Wb:mg "len" = none)(WJ:mg "set" = none)(WK:ql P w K mg base 1 "_law_bag" tQ pJ)(WL:ql P w K mg base 1 "_law_cell" rZ n8)(Wf:ql P w K mg base 2 "_law_digit" m9 jy)(WM:ql P w K mg base 3 "_law_order" qA lO)(WN:ql P w K mg base 3 "_law_some" rB mR)(WO:ql P w K mg base 6 "count" yz pV)(WQ:ql P w K mg base 2 "_law_has_four" nX jT)(WR:ql P w K mg base 2 "_law_word" rP kK):FnOk P w K mg base qk 7 f fd ND (rf K 1 yg):=uF (m:=Jm) F qJ λcdv B outer s H E hr=>
 jf (mP bU rfl (lQ Wc (jt (Gy rfl) Wg BE (i9 ja (i9 (jt (Hf rfl) Wm IB (i9 (jt mF Wb ko (i9 (i6 0) jk)) (i9 ja jk))) jk)))) (jC (i:=1) qJ.nd)
 (jf (jL (i:=2) qJ.nd (zG WK hr (zG WL hr (i6 0) (i6 1)) (jm kC ja (i6 1))))
 (jf (jL (i:=3) qJ.nd (jM (mQ (i9 ja (i9 ja (i9 ja (i9 ja (i9 ja (i9 ja (i9 ja (i9 ja jk))))))))) (zG Wf hr (i6 2) ja)))
 (jf (mE (jR (N4 hr.units) (zG Wf hr (i6 2) ja) ja)
 (ji (jL (i:=3) qJ.nd ja))
 jX)
 (jf (jL (i:=4) qJ.nd (zG WM hr (i6 2) (i6 3)))
 (jf (mE (AW.at (Ij (jR (wO hr.units) (i6 3) ja) (Co (jR (N4 hr.units) (zG Wf hr (i6 2) ja) ja))))
 (ji (jL (i:=4) qJ.nd (Tu WN hr (i6 2) (i6 3) ja)))
 jX)
 (jf (jL (i:=5) qJ.nd (Bk WO hr (i6 4)))
 (jf (mE (AW.at (Il (jR (E7 hr.units) (yU (N4 hr.units) (i6 5) (Gx (i6 5))) (yU Sj (Bk WQ hr (i6 4)) (zy))) (Il (jR (E7 hr.units) (jM (i6 5) ja) ja) (Gs (jR (E7 hr.units) (jM (i6 5) (Ci ja)) ja)))))
 (ji (jH C_))
 jX)
 (ji (mE (AW.at (Ij (jR (wO hr.units) (jt mF Wb ko (i9 (i6 5) jk)) ja) (Co (jR (E7 hr.units) (jM (i6 5) ja) (Fl rfl Wb ko WJ Pe (Bk WR hr (i6 4)))))))
 (ji (jH C_))
 jX))))))))))
 (ji (jH C_))
end
end K52
namespace K52
open PySem L2 Am
abbrev BO (S:jd)(b:Nat):Prop:=∃g st:Int,i_ S b=some [.int g,.int st]/\0<=g/\0<=st/\st<4294967296
def BO.kp{c:Nat->Prop}(h:BO S b)(k:Kp c S S')(hb:¬c b):BO S' b:=by
 obtain⟨g,st,e,q⟩:=h;exact⟨g,st,k.lst b _ hb e,q⟩
def LJ{ns:ae}{k:Int}(h0:0<=k):∃c,n8 [.frz (ns.map .int),.int k] S=.ok (.int c) S:=by
 unfold n8 r8 rL;dsimp[jD,bools,nh,Nat.reduceAdd,Nat.reduceSub,aK];by_cases hk:k<(ns.length:Int)
 ·have hn:k.toNat<ns.length:=()
  have ha:mC (ns.map A.int) k=some (.int ns[k.toNat]):=oA (k:=k.toNat) () (aG hn);rw[bg hk];dsimp[jD,bools,ha];exact⟨_,rfl⟩
 ·rw[a_ hk];dsimp[jD,bools];exact⟨_,rfl⟩
def L_{S:jd}{c k:Int}(h0:0<=k)(h1:k<=100):∃S',pJ [.int c,.int k] S=.ok (.ref S.length) S'/\BO S' S.length/\nO S S':=by
 have e3:PL (.int 10) (.int 18)=λS=>R.ok (.int 1000000000000000000) S:=by
  funext S;exact kc ⟨by decide,by decide,by decide⟩
 have m1:∀x:Int,zf (.int x) (.int 2147483647)=λS=>R.ok (.int (x % 2147483647)) S:=λx=>by funext S;exact AZ ⋯
 have m2:∀x:Int,sE (.int x) (.int 69621)=λS=>R.ok (.int (x * 69621)) S:=λx=>by funext S;exact mul_r ⋯ ⋯
 have m3:∀x:Int,sE (.int 7919) (.int x)=λS=>R.ok (.int (7919 * x)) S:=λx=>by funext S;exact Gv ⋯ ⋯
 have s0:∀x:Int,0<=x % 2147483647:=λx=>gX _ ⋯;have s1:∀x:Int,x % 2147483647<4294967296:=λx=>by have:=fZ x (show(0:Int)<2147483647 by decide);lia
 have hA:0<=(if c<0 then -c else c):=by split<;>lia
 unfold pJ tZ uc;dsimp[jD,bools,nh,Nat.reduceAdd,Nat.reduceSub,e3,m1,m2,m3];by_cases hk:(if c<0 then -c else c)<1000000000000000000
 ·rw[bg hk];dsimp[jD,bools,e3,m1,m2,m3];exact⟨_,rfl,⟨_,_,jq,fm 0,s0 _,s1 _⟩,Kp.refl.lay⟩
 ·rw[a_ hk];dsimp[jD,bools,e3,m1,m2,m3];exact⟨_,rfl,⟨_,_,jq,hA,s0 _,s1 _⟩,Kp.refl.lay⟩
def Jg{S:jd}{g st:Int}(hl:i_ S b=some [.int g,.int st])(hs:0<=st)(hs2:st<4294967296):∃d st',lK [.ref b] S=.ok (.int d) (S.set b (.lst [.int g,.int st']))/\0<=st'/\st'<4294967296:=by
 have hb:=n9 hl;have i1:vh 2 1=some 1:=tX rfl ⋯;have e1:0<=(st * 48271+11) % 2147483647:=gX _ ⋯;have e2:(st * 48271+11) % 2147483647<2147483647:=fZ _ ⋯;refine⟨(st * 48271+11) % 2147483647 * 16807 % 2147483629 / 8,(st * 48271+11) % 2147483647,?_,e1,()⟩;unfold lK qF qL;rw[sF];simp[hl,I_,Jr,i1,Gv (show -18446744073709551616<st by lia) (),AZ (show(0:Int)<2147483647 by decide),lY hb,IA (show(0:Int)<8 by decide) ⋯,Gv (show -18446744073709551616<(st * 48271+11) % 2147483647 by lia) (),AZ (show(0:Int)<2147483629 by decide)]
def digit{m:Int}(h:BO S b)(h1:1<=m)(h2:m<=1000):∃d S',jy [.ref b,.int m] S=.ok (.int d) S'/\0<=d/\d<m/\BO S' b/\Kp (·=b) S S':=by
 obtain⟨g,st,hl,hg,hs,hs2⟩:=h;have hb:=n9 hl;have i0:vh 2 0=some 0:=tX rfl ⋯;have fin:∀d g' st':Int,0<=d->d<m->0<=g'->0<=st'->st'<4294967296->jy [.ref b,.int m] S=.ok (.int d) (S.set b (.lst [.int g',.int st']))->∃d S',jy [.ref b,.int m] S=.ok (.int d) S'/\0<=d/\d<m/\BO S' b/\Kp (·=b) S S':=
  λd g' st' a1 a2 a3 a4 a5 e=>⟨d,_,e,a1,a2,⟨g',st',lY hb,a3,a4,a5⟩,Kp.refl.set (.inl rfl)⟩
 by_cases hg0:0<g
 ·refine fin (g % m) (g / m) st (gX _ ()) (fZ _ ()) (Int.ediv_nonneg hg ()) hs hs2 ?_;unfold jy ow oF;rw[sF];simp[hl,I_,Jr,hg0,AZ (show 0<m by lia),IA (show 0<m by lia) (show m<1073741824 by lia),i0]
 ·obtain⟨d,st',e1,s0,s1⟩:=Jg hl hs hs2;refine fin (d % m) g st' (gX _ ()) (fZ _ ()) hg s0 s1 ?_;unfold jy ow oF;rw[sF];simp[hl,I_,Jr,hg0,AZ (show 0<m by lia),e1,show ¬(1000<m)by lia]
theorem pX:∀(l:ae) (j:Nat) (h:j<l.length),(l[j]::l.eraseIdx j).Perm l
 | x::l,0,_=>cZ _
 | x::l,j+1,h=>(List.Perm.swap x _ _).trans (List.Perm.cons x (pX l j (gq h)))
def FI{ls fs:ae}{j:Nat}(h:j<ls.length):((fs++[ls[j]])++ls.eraseIdx j).Perm (fs++ls):=by
 rw[bH];refine List.Perm.append_left fs ?_
 skip
 exact pX ls j h
def Gw{d:Int}{n:Nat}(h0:0<=d)(h:d.toNat<n):seqIndex? d n=some d.toNat:=by
 unfold seqIndex?;simp
 lia
theorem xR{α β:Type}(f:α->β):∀(l:List α) (k:Nat),(l.map f).eraseIdx k=(l.eraseIdx k).map f
 | [],_=>rfl
 | _::_,0=>rfl
 | x::l,k+1=>dM (f x::·) (xR f l k)
def Jq{n:Int}(h:BO S b)(h1:1<=n)(h2:n<=20):∃(xs:ae) (S':jd),lO [.ref b,.int n] S=.ok (.tup (xs.map .int)) S'/\xs.Perm (jw 1 (n+1))/\BO S' b/\Kp (·=b) S S':=by
 have hbS:b<S.length:=by obtain⟨_,_,e,_⟩:=h;exact n9 e
 unfold lO qB qp;dsimp[jD,bools,nh,Nat.reduceAdd,Nat.reduceSub,FD (wD (show(-1000000:Int)<=1 by decide) ⋯ (show -1000000<=n+1 by lia) () ()),aU];refine nL (lo:=0) (hi:=n) (S1:=S++[.lst ((jw 1 (n+1)).map .int)]++[.lst []]) (nS (by dsimp[jD,bools]) (kj () ()))
  (λi τ S1=>∃(x4:A) (ls fs:ae),τ=[.ref b,.int n,.ref S.length,.ref (S.length+1),x4]/\i_ S1 S.length=some (ls.map .int)/\i_ S1 (S.length+1)=some (fs.map .int)/\(ls.length:Int)+i=n/\(fs++ls).Perm (jw 1 (n+1))/\BO S1 b/\Kp (·=b) S S1)
  (λr=>∃(xs:ae) (S':jd),RS.end (RS.seq r _)=.ok (.tup (xs.map .int)) S'/\xs.Perm (jw 1 (n+1))/\BO S' b/\Kp (·=b) S S') ?_ ?_ ?_
 ·refine⟨.unb,jw 1 (n+1),[],rfl,kq jq,?_,by rw[kr];lia,cZ _,h.kp (c:=λ_=>False) (Kp.refl.lay.lay) (λz=>z),Kp.refl.lay.lay⟩;have:i_ (S++[.lst ((jw 1 (n+1)).map .int)]++[.lst []]) (S++[O.lst ((jw 1 (n+1)).map .int)]).length=some []:=jq;simpa using this
 ·rintro i τ S1 hi ⟨x4,ls,fs,rfl,hL,hF,hn,hp,hb,hk⟩;left;obtain⟨d,S2,e2,d0,d1,hb2,hk2⟩:=digit (m:=(ls.length:Int)) hb () ();have hL2:=hk2.lst S.length _ () hL;have hF2:=hk2.lst (S.length+1) _ () hF;have hd:d.toNat<ls.length:=()
  have lF:=n9 hF2;have lL:=n9 hL2;have hfl:fs.length<=20:=by
   have:=hp.length_eq;rw[aU,kr]at this
   lia
  have hsq:seqIndex? d ls.length=some d.toNat:=Gw d0 hd;have hF3:i_ (S2.set S.length (.lst ((ls.map A.int).eraseIdx d.toNat))) (S.length+1)=some (fs.map .int):=by rw[mO ()];exact hF2
  unfold rj;dsimp[jD,bools,hL,hF,aK,e2,hL2,B0,kc (show -(2 ^ 63:Int)<=d/\d<2 ^ 63 by lia),hsq,aT,aG hd,gW,hF3,Hr (show fs.length<16777216 by lia)];refine⟨_,_,rfl,_,ls.eraseIdx d.toNat,fs++[ls[d.toNat]],rfl,?_,?_,?_,(FI hd).trans hp,?_,?_⟩
  ·rw[mO (),lY lL,xR]
  ·rw[lY (by rw[bG];exact lF),bT];rfl
  ·rw[List.length_eraseIdx_of_lt hd];lia
  ·obtain⟨g,st,e,q⟩:=hb2;exact⟨g,st,by rw[mO (),mO ()];exact e,q⟩
  ·exact((hk.trans hk2).set (.inr (aP _))).set (.inr ())
 ·rintro τ S1 ⟨x4,ls,fs,rfl,hL,hF,hn,hp,hb,hk⟩;have:ls=[]:=dm.mp ();subst this;exact⟨fs,S1,by dsimp[jD,bools,hF],by simpa using hp,hb,hk⟩
def Mi{l:ae}{k:Nat}{i:Int}(h:i=k)(hk:k<l.length):mC (l.map A.int) i=some (.int (l.getD k 0)):=oA h (by rw[aI,aG hk];rfl)
abbrev prs (n:Int):ad:=(jw 1 n).flatMap λi=>(jw (i+1) (n+1)).map λj=>.tup [.int i,.int j]
def DW{n:Int}{x:A}:x∈prs n ↔ ∃i j:Int,1<=i/\i<j/\j<=n/\x=.tup [.int i,.int j]:=by
 unfold prs;rw[gI];constructor
 ·rintro⟨i,hi,hx⟩;obtain⟨j,hj,rfl⟩:=bA.mp hx;rw[lg]at hi hj;exact⟨i,j,(),(),(),rfl⟩
 ·rintro⟨i,j,h1,h2,h3,rfl⟩;exact⟨i,lg.mpr ⟨h1,()⟩,bA.mpr ⟨j,lg.mpr ⟨(),()⟩,rfl⟩⟩
theorem AQ{α β:Type}{f:α->List β}{B:Nat}:∀(l:List α),(∀x∈l,(f x).length<=B)->(l.flatMap f).length<=l.length * B
 | [],_=>cF _
 | x::l,h=>by
  rw[ff,aU,bI,iY,Nat.one_mul];have:=AQ l λy hy=>h y (aV _ hy);have:=h x (aW ..)
  lia
def y_{n:Int}(h0:0<=n)(h1:n<=1000):(prs n).length<=16777216:=by
 have:=AQ (B:=1000) (f:=λi=>(jw (i+1) (n+1)).map λj=>A.tup [.int i,.int j]) (jw 1 n) λx hx=>by
  rw[lg]at hx;rw[aK,kr];lia
 rw[kr]at this;have h2:(n-1).toNat * 1000<=1000 * 1000:=fq _ ();unfold prs
 lia
theorem Ni{i n lo hi:Int}:∀(k t:Nat) (x1:A),k+t=(hi-lo).toNat->∃x1',o4 (ki lo hi) (jU 1) uS (rJ (i8 (i7 0) (i8 (i7 1) (jj)))) k t [.int i,x1,.int n] S=.ok ((List.range' t k).map λq:Nat=>A.tup [.int i,.int (lo+q)],[.int i,x1',.int n]) S
 | 0,t,x1,_=>⟨x1,rfl⟩
 | k+1,t,x1,h=>by
  obtain⟨x1',e⟩:=Ni (S:=S) (i:=i) (n:=n) (lo:=lo) (hi:=hi) k (t+1) (.int (lo+t)) ();refine⟨x1',?_⟩;unfold o4;have hg:(ki lo hi).get t S=some (.int (lo+t)):=aN ();dsimp[jD,bools,hg,vX (show([_,_]:ad).length<=16777216 by simp),e,dH,bX]
theorem JO{n:Int}(h0:0<=n)(h1:n<=1000):∀(k t:Nat) (x0 x1:A),k+t=(n-1).toNat->nH (ki 1 n) (jU 0) uS (ng (jc kW (i7 0) (eC (.int 1))) (jc kW (i7 2) (eC (.int 1)))) (jU 1) uS (rJ (i8 (i7 0) (i8 (i7 1) (jj)))) k t [x0,x1,.int n] S=.ok ((List.range' t k).flatMap λq:Nat=>(jw (1+q+1) (n+1)).map λj=>A.tup [.int (1+q),.int j]) S
 | 0,t,x0,x1,_=>rfl
 | k+1,t,x0,x1,h=>by
  have hg:(ki 1 n).get t S=some (.int (1+t)):=aN ();obtain⟨x1',e⟩:=Ni (S:=S) (i:=1+t) (n:=n) (lo:=1+t+1) (hi:=n+1) (ki (1+t+1) (n+1)).k 0 x1 rfl;have hr:((List.range' 0 (ki (1+(t:Int)+1) (n+1)).k).map λq:Nat=>A.tup [.int (1+t),.int (1+t+1+q)])=(jw (1+t+1) (n+1)).map λj=>A.tup [.int (1+t),.int j]:=by
   unfold jw;rw[bV,cG];rfl
  rw[hr]at e;have e2:=JO (S:=S) h0 h1 k (t+1) (.int (1+t)) x1' ();have hs:ng (jc kW (i7 0) (eC (.int 1))) (jc kW (i7 2) (eC (.int 1))) [.int (1+t),x1,.int n] S=.ok (ki (1+t+1) (n+1)) S:=
   pC (S1:=S) (by dsimp[jD,bools]) (by dsimp[jD,bools]) (kj () ()) (kj () ())
  unfold nH;dsimp[jD,bools,hg,hs,e,e2,dH,ff]
def zV{S:jd}{n:Int}(h0:0<=n)(h1:n<=1000):jP [.int n] S=.ok (.ref S.length) (S++[.lst (prs n)]):=by
 have hs:ng (eC (.int 1)) (i7 0) [.int n] S=.ok (ki 1 n) S:=pC (S1:=S) (by dsimp[jD,bools]) (by dsimp[jD,bools]) (kj () ()) (kj () ());have e:=JO (S:=S) h0 h1 (ki 1 n).k 0 .unb .unb rfl;have hp:((List.range' 0 (ki 1 n).k).flatMap λq:Nat=>(jw (1+q+1) (n+1)).map λj=>A.tup [.int (1+q),.int j])=prs n:=by
  unfold prs jw;rw[iK,<- cG];rfl
 rw[hp]at e;unfold jP oO oS Br;dsimp[jD,bools,nh,Nat.reduceAdd,Nat.reduceSub,hs,e,jQ (y_ h0 h1)]
abbrev wg (xs:ae)(q:A):Bool:=match q with
 | .tup [.int i,.int j]=>decide (xs.getD (i-1).toNat 0>xs.getD (j-1).toNat 0)
 | _=>false
def QF{xs:ae}{i:Int}(h1:0<=i)(h2:i<xs.length):mC (xs.map A.int) i=some (.int (xs.getD i.toNat 0)):=Mi (k:=i.toNat) () ()
def Sv{S:jd}{n:Nat}{xs:ae}(hlen:xs.length=n)(h2:n<=20) :
  ∃(P:Nat) (S':jd),k9 [.tup (xs.map .int)] S=.ok (.ref P) S'/\i_ S' P=some ((prs n).filter (wg xs))/\nO S S'/\S.length<=P:=by
 have eq:=zV (S:=S) (n:=(n:Int)) () ();have hL:i_ (S++[O.lst (prs n)]) S.length=some (prs n):=jq;obtain⟨S',g1,g2⟩:=pM (s:=l8 S.length (prs n).length) (g:=zH 2 (qM (jU 0) (qM (jU 1) (zJ)))) (t:=nG (jc yq (jc lC (i7 2) (jc aSub (i7 0) (eC (.int 1)))) (jc lC (i7 2) (jc aSub (i7 1) (eC (.int 1)))))) (e:=rJ (i8 (i7 0) (i8 (i7 1) (jj))))
  (P:=λS1=>S1=S++[O.lst (prs n)]) (T:=λτ'=>∃y z,τ'=[y,z,.tup (xs.map .int)])
  (λi=>(prs n).getD i .unb) (λi=>wg xs ((prs n).getD i .unb)) (λi=>(prs n).getD i .unb)
  (λi S1 hi k=>by
   have hi:i<(prs n).length:=hi;show(i_ S1 S.length).bind _=_;rw[k,hL,cC,aI,aG hi];rfl)
  (λS1 k=>by
   show(match i_ S1 S.length with
    | some ys=>decide (ys.length<=(prs n).length)
    | none=>false)=true
   rw[k,hL];simp)
  (λi τ' S1 hi ⟨y,z,hy⟩ k=>by
   have hi:i<(prs n).length:=hi;subst hy k;have hm:(prs n).getD i .unb∈prs n:=by rw[aI,aG hi];exact dJ hi
   obtain⟨a,c,q1,q2,q3,eac⟩:=DW.mp hm;rw[eac];have x1:mC (xs.map A.int) (a-1)=some (.int (xs.getD (a-1).toNat 0)):=QF () ();have x2:mC (xs.map A.int) (c-1)=some (.int (xs.getD (c-1).toNat 0)):=QF () ();refine⟨[.int a,.int c,.tup (xs.map .int)],S++[O.lst (prs n)],S++[O.lst (prs n)],by dsimp[jD,bools,kc (show([_,_]:ad).length=2 from rfl)],by dsimp[jD,bools,x1,x2];rfl,⟨_,_,rfl⟩,λ_=>rfl,λ_=>⟨_,by dsimp[jD,bools,vX (show([_,_]:ad).length<=16777216 by simp)],rfl⟩⟩)
  (prs n).length 0 (nJ [none,none,some 0] [.tup (xs.map .int)]) (S++[O.lst (prs n)]) rfl ⟨_,_,rfl⟩ rfl
 subst g2;have ef:=pB (prs n) (wg xs) (λq=>q) .unb;rw[cG,map_id']at ef;rw[ef]at g1;have ll:=y_ (n:=(n:Int)) () ();refine⟨_,(S++[O.lst (prs n)])++[.lst ((prs n).filter (wg xs))],?_,jq,Kp.refl.lay.lay,by rw[aU];lia⟩;have ec:j8 [none,none,some 0] (qi (eFn jP (i8 (jz (f1 mD) (i8 (i7 0) (jj))) (jj)))) (zH 2 (qM (jU 0) (qM (jU 1) (zJ)))) (nG (jc yq (jc lC (i7 2) (jc aSub (i7 0) (eC (.int 1)))) (jc lC (i7 2) (jc aSub (i7 1) (eC (.int 1)))))) (rJ (i8 (i7 0) (i8 (i7 1) (jj)))) [.tup (xs.map .int)] S=.ok (.ref (S++[O.lst (prs n)]).length) ((S++[O.lst (prs n)])++[.lst ((prs n).filter (wg xs))]):=by
  unfold j8;rw[ue (S1:=S++[O.lst (prs n)]) (by dsimp[jD,bools,aK,hlen,eq]) hL,R.kP];show R.kQ (l5 (l8 S.length (prs n).length) _ _ _ (prs n).length 0 _ _) _=_;rw[g1,R.ku,jQ (bS (dg _ _) ll)]
 unfold k9 oW oK;dsimp[jD,bools,nh,Nat.reduceAdd,Nat.reduceSub,ec]
abbrev AD (i hi:Int):ad:=(jw (i+1) hi).map λj=>.tup [.int i,.int j]
def JA(n:Nat):prs n=(jw 1 (n:Int)).flatMap λi=>AD i ((n:Int)+1):=rfl
open Bl
def Ko{xs:ae}{i:Nat}(h:i<=xs.length):(jw ((i:Int)+1) ((xs.length:Int)+1)).map (λj=>xs.getD (j-1).toNat 0)=xs.drop i:=by
 apply b_;intro p;rw[aT,eU];by_cases c:i+p<xs.length
 ·have:(jw ((i:Int)+1) ((xs.length:Int)+1))[p]?=some ((i:Int)+1+p):=by
   unfold jw;rw[aT,bR ()];rfl
  rw[this];show some (xs.getD ((i:Int)+1+p-1).toNat 0)=_;rw[show((i:Int)+1+p-1).toNat=i+p by lia,<- Iv.p5 c]
 ·rw[bC (by rw[kr];lia),bC ()];rfl
def Lq{xs:ae}{i:Nat}(h:i<xs.length):((AD ((i:Int)+1) ((xs.length:Int)+1)).filter (wg xs)).length=(xs.drop (i+1)).countP λy=>decide (y<xs.getD i 0):=by
 rw[<- Ko (xs:=xs) (i:=i+1) (),iS,<- eW];unfold AD;rw[iS,show(((i+1:Nat):Int))=(i:Int)+1 by lia];refine List.countP_congr λj _=>?_;show wg xs (.tup [.int ((i:Int)+1),.int j])=true ↔ decide (xs.getD (j-1).toNat 0<xs.getD i 0)=true;show decide (xs.getD ((i:Int)+1-1).toNat 0>xs.getD (j-1).toNat 0)=true ↔ _;rw[show((i:Int)+1-1).toNat=i by lia]
theorem AM{xs:ae}:∀(k i:Nat),i+k=xs.length->(((List.range' i k).flatMap λq:Nat=>AD ((q:Int)+1) ((xs.length:Int)+1)).filter (wg xs)).length=Iv.inv (xs.drop i)
 | 0,i,h=>by rw[List.drop_of_length_le ()];rfl
 | k+1,i,h=>by
  have hi:i<xs.length:=()
  rw[dH,ff,List.filter_append,aU,Lq hi,AM k (i+1) ()];have:xs.drop i=xs.getD i 0::xs.drop (i+1):=by
   rw[bQ hi];congr 1;have:=Iv.p5 hi;rw[aG hi]at this;exact aR this
  rw[this];rfl
def P1{xs:ae}{n:Nat}(hl:xs.length=n)(h1:1<=n):((prs n).filter (wg xs)).length=Iv.inv xs:=by
 have h:=AM (xs:=xs) n 0 ();rw[iV]at h;rw[<- h,JA,hl];have e:(jw 1 (n:Int)).flatMap (λi=>AD i ((n:Int)+1))=(List.range' 0 n).flatMap λq:Nat=>AD ((q:Int)+1) ((n:Int)+1):=by
  obtain⟨m,rfl⟩:∃m,n=m+1:=⟨n-1,()⟩;rw[List.range'_concat,List.flatMap_append];have z:AD (((0+1 * m:Nat):Int)+1) (((m+1:Nat):Int)+1)=[]:=by
   unfold AD jw;rw[show(((m+1:Nat):Int)+1-((((0+1 * m:Nat):Int)+1)+1)).toNat=0 by lia];rfl
  rw[ff,z];unfold jw;rw[show(((m+1:Nat):Int)-1).toNat=m by lia,iK,cG];dsimp[List.flatMap_nil,cA];congr 1
  funext q
  rw[Int.add_comm]
 rw[e]
def PC{a:ae}{i j:Nat}(hij:i<j)(hj:j<a.length)(hl:a.length<=1000):∃S',jG [.tup (a.map .int),.int ((i:Int)+1),.int ((j:Int)+1)] S=.ok (.tup ((Iv.sw a i j).map .int)) S'/\nO S S':=by
 have a1:mC (a.map A.int) (j:Int)=some (.int (a.getD j 0)):=Mi rfl hj;have a2:mC (a.map A.int) (i:Int)=some (.int (a.getD i 0)):=Mi rfl ();have x1:vh a.length (i:Int)=some i:=tX rfl ();have x2:vh a.length (j:Int)=some j:=tX rfl hj;have hL:i_ (S++[O.lst (a.map .int)]) S.length=some (a.map .int):=jq;have lS:∀ys,i_ ((S++[O.lst (a.map .int)]).set S.length (.lst ys)) S.length=some ys:=λys=>lY (by simp);have em:((a.map A.int).set i (.int (a.getD j 0))).set j (.int (a.getD i 0))=(Iv.sw a i j).map .int:=by unfold Iv.sw;rw[gu,gu]
 unfold jG lG lH;dsimp[jD,bools,nh,Nat.reduceAdd,Nat.reduceSub,hL,show(j:Int)+1-1=j by lia,show(i:Int)+1-1=i by lia,a1,a2,kc (show 2<=sizeLine by decide),kc (show 2=2 from rfl),aK,x1,lS,bG,x2,em];rw[lY (by simp)];dsimp[jD,bools];exact⟨_,rfl,((Kp.refl.lay).set (.inr (aP _))).set (.inr (aP _))⟩
open Stp
meta abbrev jI (w:ae):A:=.tup (w.map .int)
abbrev pA (p:Nat×Nat):A:=.tup [.int ((p.1:Int)+1),.int ((p.2:Int)+1)]
abbrev Lm (n i:Nat):List (Nat×Nat):=(List.range' (i+1) (n-(i+1))).map λj=>(i,j)
abbrev Pk (n:Nat):List (Nat×Nat):=(List.range n).flatMap (Lm n)
def DQ{n:Nat}{p:Nat×Nat}(h:p∈Pk n):p.1<p.2/\p.2<n:=by
 obtain⟨i,hi,h⟩:=gI.mp h;obtain⟨j,hj,rfl⟩:=bA.mp h;have:=cO.mp hi;rw[List.mem_range'_1]at hj;exact⟨by show i<j;lia,by show j<n;lia⟩
def Ld{n:Nat}(h1:i<j)(h2:j<n):(i,j)∈Pk n:=
 gI.mpr ⟨i,cO.mpr (),bA.mpr ⟨j,List.mem_range'_1.mpr (),rfl⟩⟩
def Ew{n:Nat}(h1:1<=n):prs n=(Pk n).map pA:=by
 have e1:List.range n=List.range (n-1)++[n-1]:=by rw[<- List.range_succ,Nat.succ_eq_add_one,show n-1+1=n by lia]
 have e2:Lm n (n-1)=[]:=by unfold Lm;rw[show n-(n-1+1)=0 by lia];rfl
 unfold Pk;rw[e1,List.flatMap_append,ff,List.flatMap_nil,e2,cA,cA,List.map_flatMap];unfold prs;have e3:jw 1 (n:Int)=(List.range (n-1)).map λq:Nat=>(1:Int)+q:=by
  unfold jw;rw[show((n:Int)-1).toNat=n-1 by lia]
 rw[e3,iK];congr 1
 funext i
 unfold Lm jw;rw[bV,bV,List.range'_eq_map_range,bV,show((n:Int)+1-(1+(i:Int)+1)).toNat=n-(i+1)by lia];refine fL λq _=>?_;show A.tup [.int (1+(i:Int)),.int (1+(i:Int)+1+(q:Int))]=A.tup [.int ((i:Int)+1),.int (((i+1+q:Nat):Int)+1)];rw[show(1:Int)+(i:Int)=(i:Int)+1 by lia,show((i:Int)+1+1+(q:Int))=(((i+1+q:Nat):Int)+1)by lia]
def OF{a:ae}{i j:Nat}(hij:i<j)(hj:j<a.length):sI (a.map A.int) (some ((i:Int)+1)) (some ((j:Int)+1-1))=(mm a i j).map .int:=by
 unfold sI mm;have l:(a.map A.int).length=a.length:=aK ..;have s1:HT.kX (a.map A.int).length 0 (some ((i:Int)+1))=i+1:=by
  rw[show(i:Int)+1=((i+1:Nat):Int)by lia,HT.pU,l];lia
 have s2:HT.kX (a.map A.int).length (a.map A.int).length (some ((j:Int)+1-1))=j:=by
  rw[show(j:Int)+1-1=(j:Int)by lia,HT.pU,l];lia
 rw[s1,s2,map_take,map_drop,show j-(i+1)=j-i-1 by lia]
def Tr{f g:A->A->jd->R A}{ca cb cc:Ex}{a c:A}(h1:ca τ S=.ok a S)(h2:cb τ S=.ok b S)(h3:f a b S=.ok (.bl true) S)(h4:cc τ S=.ok c S):Ml f g ca cb cc τ S=g b c S:=by
 unfold Ml;rw[h1,R.kP,h2,R.kP,h3,R.kP];unfold Vj;show(cc τ S).bind _=_;rw[h4];rfl
def U4{f g:A->A->jd->R A}{ca cb cc:Ex}{a:A}(h1:ca τ S=.ok a S)(h2:cb τ S=.ok b S)(h3:f a b S=.ok (.bl false) S):Ml f g ca cb cc τ S=.ok (.bl false) S:=by
 unfold Ml;rw[h1,R.kP,h2,R.kP,h3,R.kP];rfl
def Qw{n:Nat}{bs:List Bool}(h:i_ S n=some xs)(hb:A.FQ xs=some bs):Px (.ref n) S=.ok (.bl (bs.any λb=>b)) S:=by
 show opt (i_ S n) _=_;rw[h];show opt (A.FQ xs) _=_;rw[hb];rfl
theorem Nk{α:Type}(f:α->Bool):∀(xs:List α),A.FQ (xs.map λx=>.bl (f x))=some (xs.map f)
 | []=>rfl
 | x::xs=>by rw[bX,uD,Nk f xs];rfl
def Lx{a:ae}{i j:Nat}(hij:i<j)(hj:j<a.length)(hl:a.length<=20):mT [.tup (a.map .int),.int ((i:Int)+1),.int ((j:Int)+1)] S=.ok (.bl (Fb a i j)) (S++[.lst ((mm a i j).map λm=>.bl (zI (if a.getD j 0<a.getD i 0 then a.getD j 0 else a.getD i 0) (if a.getD j 0>a.getD i 0 then a.getD j 0 else a.getD i 0) m))]):=by
 have a1:mC (a.map A.int) (j:Int)=some (.int (a.getD j 0)):=Mi rfl hj;have a2:mC (a.map A.int) (i:Int)=some (.int (a.getD i 0)):=Mi rfl ();obtain⟨x,hx⟩:∃x,x=(if a.getD j 0<a.getD i 0 then a.getD j 0 else a.getD i 0):=⟨_,rfl⟩;obtain⟨y,hy⟩:∃y,y=(if a.getD j 0>a.getD i 0 then a.getD j 0 else a.getD i 0):=⟨_,rfl⟩;have lm:(mm a i j).length<=20:=by unfold mm;rw[bw,cB];lia
 have ec:=G3 (cap:=[some 3,some 4]) (src:=qi (QL (i7 0) (uH (i7 1)) (uH (jc aSub (i7 2) (eC (.int 1)))))) (e:=Ml EW EW (i7 1) (i7 0) (i7 2)) (τ:=[.tup (a.map .int),.int ((i:Int)+1),.int ((j:Int)+1),.int x,.int y]) (S:=S) (S1:=S) (xs:=(mm a i j).map .int)
  (Qf (by
   dsimp[jD,bools];have hg:¬(HT.kX (a.map A.int).length 0 (some ((i:Int)+1))=0/\HT.kX (a.map A.int).length (a.map A.int).length (some ((j:Int)+1-1))=(a.map A.int).length):=by
    rw[show(i:Int)+1=((i+1:Nat):Int)by lia,HT.pU,aK]
    lia
   have hs:F9 (.tup (a.map .int)) (some ((i:Int)+1)) (some ((j:Int)+1-1)) S=.ok (.tup (sI (a.map .int) (some ((i:Int)+1)) (some ((j:Int)+1-1)))) S:=kc hg;rw[hs,OF hij hj]))
  (λz=>match z with | .int m=>.bl (zI x y m)|_=>.non) (λz hz=>by
   obtain⟨m,_,rfl⟩:=bA.mp hz;show Ml EW EW (i7 1) (i7 0) (i7 2) [.int m,.int x,.int y] S=.ok (.bl (zI x y m)) S;unfold zI;by_cases c:x<m
   ·rw[Tr (a:=.int x) (b:=.int m) (c:=.int y) rfl rfl (by dsimp[jD,bg c]) rfl,bg c,gM];dsimp[jD]
   ·rw[U4 (a:=.int x) (b:=.int m) rfl rfl (by dsimp[jD,a_ c]),a_ c];rfl) (by rw[aK];lia)
 rw[bV,show((λz=>match z with | .int m=>A.bl (zI x y m)|_=>.non) ∘ A.int:Int->A)=(λm=>A.bl (zI x y m))from rfl]at ec;unfold mT uf ur;dsimp[jD,bools,nh,Nat.reduceAdd,Nat.reduceSub,show(j:Int)+1-1=j by lia,show(i:Int)+1-1=i by lia,a1,a2,<- hx,<- hy,ec];rw[Qw jq (Nk (zI x y) (mm a i j))];dsimp[jD,bools];unfold Fb;rw[<- hx,<- hy,List.any_map];rfl
end K52
namespace K52
open PySem L2 Am
open Stp
theorem CB:∀{ls:List (ae)},(∀l∈ls,l≠[])->Qt (ls.map jI)=some ls
 | [],_=>rfl
 | l::ls,h=>by
  have hl:=h l (aW ..);have ih:=CB λk hk=>h k (aV _ hk);show Qt (.tup (l.map .int)::ls.map jI)=_;unfold Qt;rw[ints_map]
  cases l with
  | nil=>exact absurd rfl hl
  | cons k ks=>dsimp only;rw[ih];rfl
def ED{S:jd}{n:Nat}{ls:List (ae)}(h:i_ S n=some (ls.map jI))(hne:∀l∈ls,l≠[]):qe (.ref n) S=.ok (.ref S.length) (S++[.lst ((lN ls).map jI)]):=by
 cases ls with
 | nil=>
  have e:QH (.ref n) S=false:=by
   show(match i_ S n with
    | some (.tup _::_)=>true
    | _=>false)=_
   rw[h];rfl
  unfold qe;rw[e];show opt (i_ S n) _=_;rw[h];rfl
 | cons l ls=>
  have e:QH (.ref n) S=true:=by
   show(match i_ S n with
    | some (.tup _::_)=>true
    | _=>false)=_
   rw[h];rfl
  unfold qe;rw[e];show yN n S=_;unfold yN;rw[h,jx,CB hne,jx]
def Ss{a:ae}(h:1<=a.length):Iv.sw a i j≠[]:=λz=>by
 have:=Iv.Oj a i j;rw[z,eV]at this
 lia
def BH{α β:Type}(ls:List α)(p:α->Bool)(f:α->β)(d:α):((List.range ls.length).filter λi=>p (ls.getD i d)).map (λi=>f (ls.getD i d))=(ls.filter p).map f:=by
 have e:ls=(List.range ls.length).map λi=>ls.getD i d:=(range_getD ls d).symm
 conv=>rhs;rw[e,gU,bV]
 rfl
abbrev stp (a:ae)(ps:List (Nat×Nat)):List (ae):=(ps.filter λp=>Fb a p.1 p.2).map λp=>Iv.sw a p.1 p.2
def HD{S:jd}{a:ae}{P:Nat}{ps:List (Nat×Nat)}(hp:i_ S P=some (ps.map pA))(hps:∀p∈ps,p.1<p.2/\p.2<a.length)(h1:1<=a.length)(hl:a.length<=20)(hlen:ps.length<=16777216) :
  ∃(R:Nat) (S':jd),sX [jI a,.ref P] S=.ok (.ref R) S'/\i_ S' R=some ((lN (stp a ps)).map jI)/\nO S S'/\S.length<=R:=by
 have pm:∀i,i<ps.length->ps.getD i (0,0)∈ps:=λi hi=>by rw[aI,aG hi];exact dJ hi
 have lm:(ps.map pA).length=ps.length:=aK ..;obtain⟨S',g1,g2,g3⟩:=pM (s:=l8 P (ps.map pA).length) (g:=zH 2 (qM (jU 0) (qM (jU 1) (zJ)))) (t:=sU (eFn mT (i8 (i7 2) (i8 (i7 0) (i8 (i7 1) (jj)))))) (e:=eFn jG (i8 (i7 2) (i8 (i7 0) (i8 (i7 1) (jj)))))
  (P:=λS1=>i_ S1 P=some (ps.map pA)/\nO S S1) (T:=λτ'=>∃y z,τ'=[y,z,jI a])
  (λi=>pA (ps.getD i (0,0))) (λi=>Fb a (ps.getD i (0,0)).1 (ps.getD i (0,0)).2) (λi=>jI (Iv.sw a (ps.getD i (0,0)).1 (ps.getD i (0,0)).2))
  (λi S1 hi k=>by
   have hi:i<ps.length:=by rw[<- lm];exact hi
   show(i_ S1 P).bind _=_;rw[k.1,cC,aT,aI,aG hi];rfl)
  (λS1 k=>by
   show(match i_ S1 P with
    | some ys=>decide (ys.length<=(ps.map pA).length)
    | none=>false)=true
   rw[k.1];simp)
  (λi τ' S1 hi ⟨y,z,hy⟩ k=>by
   have hi:i<ps.length:=by rw[<- lm];exact hi
   subst hy;obtain⟨q1,q2⟩:=hps _ (pm i hi);obtain⟨p,hpe⟩:∃p,p=ps.getD i (0,0):=⟨_,rfl⟩;rw[<- hpe]at q1 q2 ⊢;have s1:=Lx (S:=S1) q1 q2 hl;have k1:nO S1 (S1++[.lst ((mm a p.1 p.2).map λm=>.bl (zI (if a.getD p.2 0<a.getD p.1 0 then a.getD p.2 0 else a.getD p.1 0) (if a.getD p.2 0>a.getD p.1 0 then a.getD p.2 0 else a.getD p.1 0) m))]):=Kp.refl.lay;obtain⟨S2,hS2⟩:∃S2,S2=S1++[.lst ((mm a p.1 p.2).map λm=>.bl (zI (if a.getD p.2 0<a.getD p.1 0 then a.getD p.2 0 else a.getD p.1 0) (if a.getD p.2 0>a.getD p.1 0 then a.getD p.2 0 else a.getD p.1 0) m))]:=⟨_,rfl⟩;rw[<- hS2]at s1 k1;obtain⟨S3,e3,k3⟩:=PC (S:=S2) q1 q2 ();refine⟨[.int ((p.1:Int)+1),.int ((p.2:Int)+1),jI a],S1,S2,?_,?_,⟨_,_,rfl⟩,λ_=>⟨k1.lst _ _ (λz=>z) k.1,k.2.trans k1⟩,λ_=>⟨S3,?_,(k1.trans k3).lst _ _ (λz=>z) k.1,(k.2.trans k1).trans k3⟩⟩
   ·show zH 2 (qM (jU 0) (qM (jU 1) (zJ))) (.tup [.int ((p.1:Int)+1),.int ((p.2:Int)+1)]) _ _=_;dsimp[jD,zK,bools,kc (show([_,_]:ad).length=2 from rfl)]
   ·dsimp[jD,zK,bools,s1]
   ·dsimp[jD,zK,bools,e3])
  (ps.map pA).length 0 (nJ [none,none,some 0] [jI a,.ref P]) S rfl ⟨_,_,rfl⟩ ⟨hp,Kp.refl⟩
 rw[lm,<- cG,BH ps (λp=>Fb a p.1 p.2) (λp=>jI (Iv.sw a p.1 p.2)) (0,0)]at g1;have e1:(ps.filter λp=>Fb a p.1 p.2).map (λp=>jI (Iv.sw a p.1 p.2))=(stp a ps).map jI:=by unfold stp;rw[bV];rfl
 rw[e1]at g1;have ll:((stp a ps).map jI).length<=16777216:=by
  unfold stp;rw[aK,aK];exact bS (dg _ _) hlen
 have ec:j8 [none,none,some 0] (qi (i7 1)) (zH 2 (qM (jU 0) (qM (jU 1) (zJ)))) (sU (eFn mT (i8 (i7 2) (i8 (i7 0) (i8 (i7 1) (jj)))))) (eFn jG (i8 (i7 2) (i8 (i7 0) (i8 (i7 1) (jj))))) [jI a,.ref P] S=.ok (.ref S'.length) (S'++[.lst ((stp a ps).map jI)]):=by
  unfold j8;rw[ue (S1:=S) (by dsimp[jD,zK,bools]) hp,R.kP];show R.kQ (l5 (l8 P (ps.map pA).length) _ _ _ (ps.map pA).length 0 _ _) _=_;rw[lm,g1,R.ku,jQ ll]
 have so:=ED (S:=S'++[.lst ((stp a ps).map jI)]) (n:=S'.length) jq λl hl=>by
  unfold stp at hl;obtain⟨p,_,rfl⟩:=bA.mp hl;exact Ss h1
 refine⟨(S'++[O.lst ((stp a ps).map jI)]).length,(S'++[O.lst ((stp a ps).map jI)])++[.lst ((lN (stp a ps)).map jI)],?_,jq,g3.lay.lay,by have:=g3.len;rw[aU];lia⟩;unfold sX zk yH;dsimp[jD,zK,bools,nh,Nat.reduceAdd,Nat.reduceSub,ec,so]
def LZ{n:Nat}(h1:1<=n)(h:n<=20):(Pk n).length<=16777216:=by
 have:=y_ (n:=(n:Int)) () ();rw[Ew h1,aK]at this;exact this
def Ls{n:Nat}(h1:1<=n)(q:A->Bool):(prs n).filter q=((Pk n).filter λp=>q (pA p)).map pA:=by
 rw[Ew h1,gU];rfl
abbrev ups (a:ae):List (Nat×Nat):=(Pk a.length).filter λp=>decide (a.getD p.1 0<a.getD p.2 0)
def Kz{S:jd}{a:ae}(h1:1<=a.length)(hl:a.length<=20):∃(R:Nat) (S':jd),k7 [jI a] S=.ok (.ref R) S'/\i_ S' R=some ((lN (stp a (ups a))).map jI)/\nO S S'/\S.length<=R:=by
 have eq:=zV (S:=S) (n:=(a.length:Int)) () ();have hL:i_ (S++[O.lst (prs a.length)]) S.length=some (prs a.length):=jq;obtain⟨S',g1,g2⟩:=pM (s:=l8 S.length (prs a.length).length) (g:=zH 2 (qM (jU 0) (qM (jU 1) (zJ)))) (t:=nG (jc EW (jc lC (i7 2) (jc aSub (i7 0) (eC (.int 1)))) (jc lC (i7 2) (jc aSub (i7 1) (eC (.int 1)))))) (e:=rJ (i8 (i7 0) (i8 (i7 1) (jj))))
  (P:=λS1=>S1=S++[O.lst (prs a.length)]) (T:=λτ'=>∃y z,τ'=[y,z,jI a])
  (λi=>(prs a.length).getD i .unb) (λi=>match (prs a.length).getD i .unb with | .tup [.int i,.int j]=>decide (a.getD (i-1).toNat 0<a.getD (j-1).toNat 0)|_=>false) (λi=>(prs a.length).getD i .unb)
  (λi S1 hi k=>by
   have hi:i<(prs a.length).length:=hi;show(i_ S1 S.length).bind _=_;rw[k,hL,cC,aI,aG hi];rfl)
  (λS1 k=>by
   show(match i_ S1 S.length with
    | some ys=>decide (ys.length<=(prs a.length).length)
    | none=>false)=true
   rw[k,hL];simp)
  (λi τ' S1 hi ⟨y,z,hy⟩ k=>by
   have hi:i<(prs a.length).length:=hi;subst hy k;have hm:(prs a.length).getD i .unb∈prs a.length:=by rw[aI,aG hi];exact dJ hi
   obtain⟨u,c,q1,q2,q3,eac⟩:=DW.mp hm;rw[eac];have x1:mC (a.map A.int) (u-1)=some (.int (a.getD (u-1).toNat 0)):=QF () ();have x2:mC (a.map A.int) (c-1)=some (.int (a.getD (c-1).toNat 0)):=QF () ();refine⟨[.int u,.int c,jI a],S++[O.lst (prs a.length)],S++[O.lst (prs a.length)],by dsimp[jD,zK,bools,kc (show([_,_]:ad).length=2 from rfl)],by dsimp[jD,zK,bools,x1,x2],⟨_,_,rfl⟩,λ_=>rfl,λ_=>⟨_,by dsimp[jD,zK,bools,vX (show([_,_]:ad).length<=16777216 by simp)],rfl⟩⟩)
  (prs a.length).length 0 (nJ [none,none,some 0] [jI a]) (S++[O.lst (prs a.length)]) rfl ⟨_,_,rfl⟩ rfl
 subst g2;rw[<- cG,BH (prs a.length) (λz=>match z with | .tup [.int i,.int j]=>decide (a.getD (i-1).toNat 0<a.getD (j-1).toNat 0)|_=>false) (λq=>q) .unb,map_id']at g1;have ef:(prs a.length).filter (λz=>match z with | .tup [.int i,.int j]=>decide (a.getD (i-1).toNat 0<a.getD (j-1).toNat 0)|_=>false)=(ups a).map pA:=by
  rw[Ls h1];have:(λp=>(λz=>match z with | .tup [.int i,.int j]=>decide (a.getD (i-1).toNat 0<a.getD (j-1).toNat 0)|_=>false) (pA p))=λp:Nat×Nat=>decide (a.getD p.1 0<a.getD p.2 0):=by
   funext p
   show decide (a.getD ((p.1:Int)+1-1).toNat 0<a.getD ((p.2:Int)+1-1).toNat 0)=_;rw[show((p.1:Int)+1-1).toNat=p.1 by lia,show((p.2:Int)+1-1).toNat=p.2 by lia]
  rw[this];rfl
 rw[ef]at g1;have lu:(ups a).length<=16777216:=bS (dg _ _) (LZ h1 hl);have ec:j8 [none,none,some 0] (qi (eFn jP (i8 (jz (f1 mD) (i8 (i7 0) (jj))) (jj)))) (zH 2 (qM (jU 0) (qM (jU 1) (zJ)))) (nG (jc EW (jc lC (i7 2) (jc aSub (i7 0) (eC (.int 1)))) (jc lC (i7 2) (jc aSub (i7 1) (eC (.int 1)))))) (rJ (i8 (i7 0) (i8 (i7 1) (jj)))) [jI a] S=.ok (.ref (S++[O.lst (prs a.length)]).length) ((S++[O.lst (prs a.length)])++[.lst ((ups a).map pA)]):=by
  unfold j8;rw[ue (S1:=S++[O.lst (prs a.length)]) (by dsimp[jD,zK,bools,aK,eq]) hL,R.kP];show R.kQ (l5 (l8 S.length (prs a.length).length) _ _ _ (prs a.length).length 0 _ _) _=_;rw[g1,R.ku,jQ (by rw[aK];exact lu)]
 have k1:nO S ((S++[O.lst (prs a.length)])++[.lst ((ups a).map pA)]):=Kp.refl.lay.lay;have l1:i_ ((S++[O.lst (prs a.length)])++[.lst ((ups a).map pA)]) (S++[O.lst (prs a.length)]).length=some ((ups a).map pA):=jq;obtain⟨R,S2,e2,g2,k2,b2⟩:=HD (a:=a) l1 (λp hp=>DQ (bO.mp hp).1) h1 hl lu;refine⟨R,S2,?_,g2,k1.trans k2,bS k1.len b2⟩;unfold k7 o8 oZ;dsimp[jD,zK,bools,nh,Nat.reduceAdd,Nat.reduceSub,ec,e2]
end K52
namespace K52
open PySem L2 Am
open Bl
def sS{xs ys:ae}(h:xs.length=ys.length):kE [.tup (xs.map .int),.tup (ys.map .int)] S=.ok .non S:=by
 unfold kE qw qt;dsimp[jD,bools,nh,Nat.reduceAdd,Nat.reduceSub,aK,h,bN,gJ]
def Kq{L:Nat}{ms:ae}(hL:i_ S L=some (ms.map .int))(hp:∃m∈ms,0<m)(hms:ms.length<=1000):∃j:Nat,jS [.ref L] S=.ok (.int ((j:Int)+1)) S/\(∃m,ms[j]?=some m/\0<m)/\∀(k:Nat) (m:Int),k<j->ms[k]?=some m->m<=0:=by
 unfold jS kJ kL;dsimp[jD,bools,nh,Nat.reduceAdd,Nat.reduceSub];refine qu (λτ S'=>S'=S/\∃p:Nat,p<ms.length/\τ=[.ref L,.int ((p:Int)+1)]/\∀(k:Nat) (m:Int),k<p->ms[k]?=some m->m<=0)
  (λτ _=>match τ with
   | [_,.int i]=>(ms.length+1)-i.toNat
   | _=>0)
  (λr=>∃j:Nat,RS.end (RS.seq r _)=.ok (.int ((j:Int)+1)) S/\(∃m,ms[j]?=some m/\0<m)/\∀(k:Nat) (m:Int),k<j->ms[k]?=some m->m<=0) ?_ 1000000 _ _ ⟨rfl,0,?_,rfl,λk m hk=>absurd hk (gT _)⟩ ?_
 ·rintro τ S' ⟨rfl,p,hpl,rfl,hall⟩;have ha:mC (ms.map A.int) ((p:Int)+1-1)=some (.int ms[p]):=oA (k:=p) () (aG hpl);unfold l_ mq;dsimp[jD,bools,hL,ha];by_cases h0:ms[p]<=0
  ·right;refine⟨S',by rw[bg h0],.inl ⟨_,_,rfl,⟨rfl,p+1,?_,dM (λz=>[A.ref L,A.int z]) (),λk m hk hm=>?_⟩,?_⟩⟩
   ·obtain⟨m,hm,hm0⟩:=hp;obtain⟨k,hk,e⟩:=d7.mp hm;have:¬k<=p:=λhkp=>by
     rcases iM k p with h|h
     ·have:=hall k m h (by rw[aG hk,e])
      lia
     ·have:k=p:=()
      subst this
      lia
    lia
   ·rcases iM k p with h|h
    ·exact hall k m h hm
    ·have:k=p:=()
     subst this;rw[aG hpl]at hm
     cases hm
     exact h0
   ·show ms.length+1-((p:Int)+1+1).toNat<ms.length+1-((p:Int)+1).toNat
    lia
  ·left;refine⟨S',by rw[a_ h0],p,by dsimp[jD,bools],⟨ms[p],aG hpl,()⟩,hall⟩
 ·obtain⟨m,hm,_⟩:=hp;exact gp hm
 ·show ms.length+1-(1:Int).toNat<1000000
  lia
def Ah{f:A->A->jd->R A}{d:Int}(hf:∀(m:Int) S,f (.int m) (.int 1) S=.ok (.int (m+d)) S){src:Ic}{L:Nat}{ms:ae}{x:Int}{Post:RS->Prop}(hx0:0<=x)(hx:x<=ms.length)
  (hsrc:src [a0,a1,.ref L,a3,a4] S=.ok (ki 0 x) S) (hL:i_ S L=some (ms.map .int)) (fin:∀a4' S',i_ S' L=some ((kY x.toNat d ms).map .int)->Kp (·=L) S S'->Post (.nx [a0,a1,.ref L,a3,a4'] S')) :
  Post (nV src (jU 4) (uN (i7 2) (i7 4) (eC (.int 1)) f) [a0,a1,.ref L,a3,a4] S):=by
 refine nL (lo:=0) (hi:=x) hsrc (λi τ S'=>∃a4',τ=[a0,a1,.ref L,a3,a4']/\i_ S' L=some ((kY i d ms).map .int)/\Kp (·=L) S S') Post ⟨a4,rfl,hL,Kp.refl⟩ ?_ ?_
 ·rintro i τ S' hi ⟨a4',rfl,hL',hk⟩;left;have hi':i<ms.length:=()
  have e1:((kY i d ms).map A.int)[((0:Int)+(i:Int)).toNat]?=some (.int ms[i]):=by
   rw[show((0:Int)+(i:Int)).toNat=i by lia,aT,qX,aG hi'];simp
  have e2:vh (kY i d ms).length (0+(i:Int))=some i:=tX () (by rw[uC];exact hi');have lL:=n9 hL';dsimp[jD,bools,hL',kc (show(0:Int)<=0+(i:Int)by lia),e1,hf,aK,e2];refine⟨_,_,rfl,_,rfl,?_,hk.set (.inl rfl)⟩;rw[lY lL,<- wV i d ms ms[i] (aG hi'),gu]
 ·rintro τ S' ⟨a4',rfl,hL',hk⟩;exact fin a4' S' (by rw[Int.sub_zero]at hL';exact hL') hk
abbrev MM (xs ys:ae)(i j:Nat):Prop:=cnt (ys.take i) j<cnt (xs.take i) j/\(∀i' j':Nat,i'<i->1<=j'->j'<=xs.length->cnt (xs.take i') j'<=cnt (ys.take i') j')/\∀j':Nat,1<=j'->j'<j->cnt (xs.take i) j'<=cnt (ys.take i) j'
def N7{xs ys:ae}{n:Nat}(px:xs.Perm (jw 1 ((n:Int)+1)))(py:ys.Perm (jw 1 ((n:Int)+1)))(h1:1<=n)(h2:n<=20):∃S',((ym [.tup (xs.map .int),.tup (ys.map .int)] S=.ok .non S'/\Below xs ys) \/
  ∃i j:Nat,ym [.tup (xs.map .int),.tup (ys.map .int)] S=.ok (.tup [.int i,.int j]) S'/\1<=i/\i<=n/\1<=j/\j<=n/\MM xs ys i j)/\nO S S':=by
 have lx:xs.length=n:=by have:=AY px ();lia
 have ly:ys.length=n:=by have:=AY py ();lia
 unfold ym Hv Kh;dsimp[jD,bools,nh,Nat.reduceAdd,Nat.reduceSub,sS (S:=S) (lx.trans ly.symm),aK,lx];rw[MH (k:=n) jq ()];dsimp[jD,bools];have hlen:(S++[O.lst [.int 0]]).length=S.length+1:=by simp
 rw[hlen];refine nL (lo:=0) (hi:=(n:Int)) (S1:=S++[O.lst [.int 0]]++[O.lst (List.replicate n (.int 0))]) ?_
  (λt τ S'=>∃a3 a4,τ=[.tup (xs.map .int),.tup (ys.map .int),.ref (S.length+1),a3,a4]/\i_ S' (S.length+1)=some ((pG n xs ys t).map .int)/\nO S S'/\∀i' j':Nat,i'<=t->1<=j'->j'<=n->cnt (xs.take i') j'<=cnt (ys.take i') j')
  (λr=>∃S',((RS.end (RS.seq r _)=.ok .non S'/\Below xs ys)\/∃i j:Nat,RS.end (RS.seq r _)=.ok (.tup [.int i,.int j]) S'/\1<=i/\i<=n/\1<=j/\j<=n/\MM xs ys i j)/\nO S S') ⟨.unb,.unb,rfl,?_,Kp.refl.lay.lay,?_⟩ ?_ ?_
 ·refine nS ?_ (kj () ());dsimp[jD,bools,aK,lx]
 ·rw[K7,List.map_replicate,<- hlen];exact jq
 ·intro i' j' hi _ _;have:i'=0:=()
  subst this;simp[cnt]
 ·rintro t τ S' ht ⟨a3,a4,rfl,hL,hk,hok⟩;have ht':t<n:=()
  have hx:t<xs.length:=()
  have hy:t<ys.length:=()
  have mx:=Au px (dJ hx);have my:=Au py (dJ hy);have ax:mC (xs.map A.int) (0+(t:Int))=some (.int xs[t]):=oA (k:=t) () (aG hx);have ay:mC (ys.map A.int) (0+(t:Int))=some (.int ys[t]):=oA (k:=t) () (aG hy);unfold E1;dsimp[jD,bools];obtain⟨a4',S2,e2,hL2,hk2⟩:=Ah (f:=BF) (d:=1) (ms:=pG n xs ys t) (x:=xs[t]) (src:=EB) (a0:=.tup (xs.map .int)) (a1:=.tup (ys.map .int)) (a3:=.int (0+(t:Int))) (a4:=a4) (Post:=λr=>∃a4' S2,r=.nx [.tup (xs.map .int),.tup (ys.map .int),.ref (S.length+1),.int (0+(t:Int)),a4'] S2/\i_ S2 (S.length+1)=some ((kY xs[t].toNat 1 (pG n xs ys t)).map .int)/\Kp (·=S.length+1) S' S2) (λ_ _=>rfl) () (by rw[mH];lia)
   (nS (by dsimp[jD,bools,ax]) (kj () ())) hL (λa4' S2 h1 h2=>⟨a4',S2,rfl,h1,h2⟩)
  obtain⟨a4'',S3,e3,hL3,hk3⟩:=Ah (f:=aSub) (d:=-1) (ms:=kY xs[t].toNat 1 (pG n xs ys t)) (x:=ys[t]) (src:=Ep) (a0:=.tup (xs.map .int)) (a1:=.tup (ys.map .int)) (a3:=.int (0+(t:Int))) (a4:=a4') (Post:=λr=>∃a4'' S3,r=.nx [.tup (xs.map .int),.tup (ys.map .int),.ref (S.length+1),.int (0+(t:Int)),a4''] S3/\i_ S3 (S.length+1)=some ((kY ys[t].toNat (-1) (kY xs[t].toNat 1 (pG n xs ys t))).map .int)/\Kp (·=S.length+1) S2 S3) (λ_ _=>rfl) () (by rw[uC,mH];lia)
   (nS (by dsimp[jD,bools,ay]) (kj () ())) hL2 (λa4' S2 h1 h2=>⟨a4',S2,rfl,h1,h2⟩)
  rw[Bu hx hy]at hL3;have hk':nO S S3:=(hk.old hk2 λn hn _=>()).old hk3 λn hn _=>()
  obtain⟨m,em,m1,m2⟩:=Jb hL3 (by intro z;have:=dM List.length z;rw[mH]at this;simp at this;lia);dsimp[show Et=uN (i7 2) (i7 4) (eC (.int 1)) BF from rfl,show ET=uN (i7 2) (i7 4) (eC (.int 1)) aSub from rfl,e2,e3,jD,bools,em];by_cases hm:0<m
  ·right;rw[bg hm];obtain⟨j,ej,⟨mj,hj1,hj2⟩,hj3⟩:=Kq hL3 ⟨m,m1,hm⟩ (by rw[mH];lia);dsimp[jD,bools,ej,vX (show([_,_]:ad).length<=16777216 by simp)];have hjn:j<n:=by
    have:=(aJ.mp hj1).1
    rwa [mH]at this
   refine⟨_,_,rfl,S3,.inr ⟨t+1,j+1,?_,(),(),(),(),?_,?_,?_⟩,hk'⟩
   ·have e5:(0:Int)+(t:Int)+1=((t+1:Nat):Int):=()
    have e6:(j:Int)+1=((j+1:Nat):Int):=()
    rw[e5,e6]
   ·rw[pD hjn]at hj1
    cases hj1
    have:((j+1:Nat):Int)=(j:Int)+1:=()
    rw[this]
    lia
   ·intro i' j' hi' h1' h2';exact hok i' j' () h1' ()
   ·intro j' h1' h2';have:=hj3 (j'-1) _ () (pD ());rw[show(((j'-1:Nat):Int)+1)=(j':Int)by lia]at this
    lia
  ·left;rw[a_ hm];dsimp[jD,bools];refine⟨_,_,rfl,_,_,rfl,hL3,hk',λi' j' hi' h1' h2'=>?_⟩;by_cases hi:i'<=t
   ·exact hok i' j' hi h1' h2'
   ·have:i'=t+1:=()
    subst this;have:=m2 _ (aY (pD (n:=n) (xs:=xs) (ys:=ys) (t:=t+1) (j:=j'-1) ()));rw[show(((j'-1:Nat):Int)+1)=(j':Int)by lia]at this
    lia
 ·rintro τ S' ⟨a3,a4,rfl,hL,hk,hok⟩;refine⟨S',.inl ⟨by dsimp[jD,bools],?_⟩,hk⟩;refine(x_ px py).mp λi q hi hq=>?_;have:=hok (i+1) (q+1) () () ();exact this
def A5{xs ys:ae}{n:Nat}(px:xs.Perm (jw 1 ((n:Int)+1)))(py:ys.Perm (jw 1 ((n:Int)+1)))(h1:1<=n)(h2:n<=20):∃(k:Bool) (S':jd),kH [.tup (xs.map .int),.tup (ys.map .int)] S=.ok (.bl k) S'/\(k=true ↔ Below xs ys)/\nO S S':=by
 obtain⟨S',h|⟨i,j,e,i1,i2,j1,j2,h,_⟩,hk⟩:=N7 (S:=S) px py h1 h2
 ·refine⟨true,S',?_,⟨λ_=>h.2,λ_=>rfl⟩,hk⟩;unfold kH pR pS;dsimp[jD,bools,nh,Nat.reduceAdd,Nat.reduceSub,h.1]
 ·refine⟨false,S',?_,⟨λz=>absurd z bq,λz=>?_⟩,hk⟩
  ·unfold kH pR pS;dsimp[jD,bools,nh,Nat.reduceAdd,Nat.reduceSub,e]
  ·have:=z i j
   lia
end K52
namespace K52
open PySem L2 Am
open Bl
open Stp
open Fw (rg)
section
variable {S:jd}
def Lf:jO (S++[.dct xs]) S.length=some xs:=sD (by simp)
def La{o:O}{n:Nat}(h:jO S n=some xs):jO (S++[o]) n=some xs:=by
 have h':=nP h;exact sD (by rw[bD (aJ.mp h').1];exact h')
def Pz{n:Nat}(h:jO S n=some xs):n<S.length:=(aJ.mp (nP h)).1
def K3{n:Nat}(h:n<S.length):jO (S.set n (.dct ys)) n=some ys:=sD (b8 h)
def vH{n:Nat}(h:n≠m):jO (S.set n o) m=jO S m:=by unfold jO;rw[bW h]
def wR{n:Nat}(h:n≠m):i_ (S.set n o) m=i_ S m:=by unfold i_;rw[bW h]
end
meta abbrev Eb:=List (ae×Bool)
abbrev kb (es:Eb):List (ae×A):=es.map λe=>(e.1,.bl e.2)
theorem zA:∀{es:Eb}{w:ae},(m8 (kb es) w).isSome=decide (w∈es.map (·.1))
 | [],w=>rfl
 | e::es,w=>by
  show(m8 ((e.1,.bl e.2)::kb es) w).isSome=_;by_cases c:e.1=w
  ·rw[tW c,bg (by rw[<- c];simp)];rfl
  ·rw[tM c,zA,decide_eq_decide];constructor
   ·exact λz=>aV _ z
   ·intro z
    rcases bJ.mp z with z|z
    ·exact absurd z.symm c
    ·exact z
theorem An:∀{es:Eb}{w:ae}{b:Bool},w∉es.map (·.1)->m8 (kb (es++[(w,b)])) w=some (.bl b)
 | [],w,b,_=>tW rfl
 | e::es,w,b,h=>by
  show m8 ((e.1,.bl e.2)::kb (es++[(w,b)])) w=_;rw[tM λz=>h (by rw[<- z];simp)];exact An λz=>h (aV _ z)
def KP{es:Eb}{w:ae}(h:w∉es.map (·.1)):putD (kb es) w (.bl b)=kb (es++[(w,b)]):=by
 unfold putD;rw[zA,a_ h,aM bq];unfold kb;rw[bT];rfl
def tD(w:ae):A.ints (w.map .int)=some w:=ints_map w
def Pd{D:Nat}{es:Eb}{w:ae}(h:jO S D=some (kb es)):PR true (jI w) (.ref D) S=.ok (.bl (!decide (w∈es.map (·.1)))) S:=by
 show opt (jO S D) _=_;rw[h,jx];show opt (A.ints (w.map .int)) _=_;rw[tD,jx,<- zA];rfl
def Tq{D:Nat}{w:ae}{v:A}(h:jO S D=some (kb es))(hl:m8 (kb es) w=some v):K4 (.ref D) (jI w) S=.ok v S:=by
 show opt (jO S D) _=_;rw[h,jx];show opt (A.ints (w.map .int)) _=_;rw[tD,jx,hl,jx]
def U6{n:Nat}(hn:n<=9){ks:List (ae)}(nd:ks.Nodup)(h:∀k∈ks,k.Perm (rg n)):ks.length<=362880:=by
 have hr:∀k∈ks,Nu.rank k<Nu.rm n/\Nu.SG n (rg n) (Nu.rank k)=k:=λk hk=>Nu.Ea n (rg n) k (Wd.jY n) (Nu.GC _ _) (h k hk);have h1:(ks.map Nu.rank).Nodup:=by
  unfold List.Nodup;rw[dX];exact fR (λ{a b} ha hb hab z=>hab (by rw[<- (hr a ha).2,<- (hr b hb).2,z])) nd
 have:=Rd.vB (Nu.rm n) _ h1 λx hx=>by
  obtain⟨k,hk,rfl⟩:=bA.mp hx;exact(hr k hk).1
 rw[aK]at this;exact bS this (bS (Nu.HL hn) ⋯)
abbrev Cl (n:Nat)(z:ae)(es:Eb):Prop:=∀i j,i<j->j<n->z.getD i 0<z.getD j 0->Fb z i j=true->Iv.sw z i j∈es.map (·.1)
structure Lk (n:Nat)(u y:ae)(es:Eb)(ws:List (ae))(v:Option (ae)):Prop where
 nd:(es.map (·.1)).Nodup
 pm:∀e∈es,e.1.Perm (rg n)
 wt:∀w∈ws,(w,true)∈es
 up:∀e∈es,Below u e.1
 fl:∀e∈es,(e.2=true ↔ Below e.1 y)
 st:u∈es.map (·.1)
 cl:∀e∈es,e.2=true->e.1∈ws\/some e.1=v\/Cl n e.1 es
def Lk.few{n:Nat}{es:Eb}{v:Option (ae)}(h:Lk n u y es ws v)(hn:n<=9):es.length<=362880:=by
 have:=U6 hn h.nd λk hk=>by
  obtain⟨e,he,rfl⟩:=bA.mp hk;exact h.pm e he
 rwa [aK]at this
def OW{n:Nat}{a:ae}(pa:a.Perm (rg n))(hij:i<j)(hj:j<n)(h:a.getD i 0<a.getD j 0):Below a (Iv.sw a i j):=by
 have la:a.length=n:=by rw[pa.length_eq,Wd.jY]
 unfold Iv.sw;rw[Eu.jK (show i<a.length by lia),Eu.jK (show j<a.length by lia)]at h ⊢;exact uG () () hij h
def Cl.more{n:Nat}{x:ae×Bool}(h:Cl n z es):Cl n z (es++[x]):=λi j a b c d=>by
 rw[bT];exact bP _ (h i j a b c d)
def Lk.more{n:Nat}{x:ae}{es:Eb}{v:Option (ae)}{k:Bool}(h:Lk n u y es ws v)(hx:x∉es.map (·.1))(px:x.Perm (rg n))(ux:Below u x)(hk:k=true ↔ Below x y):Lk n u y (es++[(x,k)]) (if k=true then ws++[x]else ws) v where
 nd:=by
  rw[bT,cD];refine⟨h.nd,by simp,λa ha b hb zz=>hx ?_⟩;have:b=x:=by simpa using hb
  rw[<- this,<- zz];exact ha
 pm:=λe he=>by
  rcases bh.mp he with z|z
  ·exact h.pm e z
  ·have:e=(x,k):=by simpa using z
   rw[this];exact px
 wt:=λw hw=>by
  cases k with
  | false=>exact bP _ (h.wt w hw)
  | true=>
   rcases bh.mp hw with z|z
   ·exact bP _ (h.wt w z)
   ·have:w=x:=by simpa using z
    rw[this];exact aX _ (by simp)
 up:=λe he=>by
  rcases bh.mp he with z|z
  ·exact h.up e z
  ·have:e=(x,k):=by simpa using z
   rw[this];exact ux
 fl:=λe he=>by
  rcases bh.mp he with z|z
  ·exact h.fl e z
  ·have:e=(x,k):=by simpa using z
   rw[this];exact hk
 st:=by rw[bT];exact bP _ h.st
 cl:=λe he h2=>by
  rcases bh.mp he with z|z
  ·rcases h.cl e z h2 with q|q|q
   ·left
    cases k with
    | false=>exact q
    | true=>exact bP _ q
   ·exact .inr (.inl q)
   ·exact .inr (.inr q.more)
  ·have:e=(x,k):=by simpa using z
   subst this;have h2:k=true:=h2;subst h2;left;exact aX _ (by simp)
def D_{n:Nat}{a:ae}(la:a.length=n){l:ae}:l∈lN (stp a (ups a)) ↔ ∃i j,i<j/\j<n/\a.getD i 0<a.getD j 0/\Fb a i j=true/\l=Iv.sw a i j:=by
 rw[(rY _).mem_iff];unfold stp ups;rw[bA];constructor
 ·rintro⟨p,hp,rfl⟩;obtain⟨h1,h2⟩:=bO.mp hp;obtain⟨h3,h4⟩:=bO.mp h1;have:=DQ h3;exact⟨p.1,p.2,this.1,(),c8 h4,h2,rfl⟩
 ·rintro⟨i,j,h1,h2,h3,h4,rfl⟩;exact⟨(i,j),bO.mpr ⟨bO.mpr ⟨Ld h1 (),bg h3⟩,h4⟩,rfl⟩
def looked{S0:jd}{n D:Nat}{es:Eb}{ws:List (ae)}{L:List (ae)}{v oth:ae}(hn:n<=9)(h1:1<=n)(po:oth.Perm (rg n))(hD:jO S D=some (kb es))(hW:i_ S W=some (ws.map jI))(hM:i_ S M=some (L.map jI))(hL:∀l∈L,l.Perm (rg n)/\Below u l)(lk:Lk n u oth es ws (some v))
  (hDS:S0.length<=D) (hWS:S0.length<=W) (hDW:D≠W) (hDM:D≠M) (hWM:W≠M) (hwe:ws.length<=es.length) (kp:nO S0 S) {a0 a4 a5:A} (hsrc:oz [a0,jI oth,.ref D,.ref W,a4,a5] T=.ok (l8 M (L.map jI).length) S) :
  ∃(es':Eb) (ws':List (ae)) (b5:A) (S':jd),nV oz (jU 5) qm [a0,jI oth,.ref D,.ref W,a4,a5] T=.nx [a0,jI oth,.ref D,.ref W,a4,b5] S'/\jO S' D=some (kb es')/\i_ S' W=some (ws'.map jI)/\Lk n u oth es' ws' (some v)/\(∀l∈L,l∈es'.map (·.1))/\es.length<=es'.length/\ws'.length+es.length<=ws.length+es'.length/\nO S0 S':=by
 refine EM (n:=M) (xs:=L.map jI) (S1:=S) hsrc
  (λi τ S'=>∃(es':Eb) (ws':List (ae)) (b5:A),τ=[a0,jI oth,.ref D,.ref W,a4,b5]/\jO S' D=some (kb es')/\i_ S' W=some (ws'.map jI)/\i_ S' M=some (L.map jI)/\Lk n u oth es' ws' (some v)/\(∀l∈L.take i,l∈es'.map (·.1))/\es.length<=es'.length/\ws'.length+es.length<=ws.length+es'.length/\nO S0 S')
  (λr=>∃(es':Eb) (ws':List (ae)) (b5:A) (S':jd),r=.nx [a0,jI oth,.ref D,.ref W,a4,b5] S'/\jO S' D=some (kb es')/\i_ S' W=some (ws'.map jI)/\Lk n u oth es' ws' (some v)/\(∀l∈L,l∈es'.map (·.1))/\es.length<=es'.length/\ws'.length+es.length<=ws.length+es'.length/\nO S0 S')
  ⟨es,ws,_,rfl,hD,hW,hM,lk,λl hl=>absurd hl (by simp),aP _,aP _,kp⟩ (λi τ S' hh=>by obtain⟨_,_,_,_,_,_,z,_⟩:=hh;exact z) ?_ ?_
 ·rintro i z τ S' hz ⟨es',ws',b5,rfl,hD',hW',hM',lk',hin,hle,hle2,kp'⟩;rw[aT]at hz;obtain⟨x,hx,rfl⟩:=br.mp hz;obtain⟨px,ux⟩:=hL x (aY hx);have ht:L.take (i+1)=L.take i++[x]:=by
   obtain⟨hi,e⟩:=aJ.mp hx;rw[c7 hi,e]
  refine⟨[a0,jI oth,.ref D,.ref W,a4,jI x],S',rfl,.inl ?_⟩;unfold qm;by_cases c:x∈es'.map (·.1)
  ·dsimp[jD,zK,bools,Pd hD',bg c,gJ];refine⟨_,_,rfl,es',ws',_,rfl,hD',hW',hM',lk',λl hl=>?_,hle,hle2,kp'⟩;rw[ht]at hl
   rcases bh.mp hl with z|z
   ·exact hin l z
   ·have:l=x:=by simpa using z
    rw[this];exact c
  ·obtain⟨k,U,e1,hk,kU⟩:=A5 (S:=S') (n:=n) px po h1 ();have hDU:=kU.dct _ _ (λz=>z) hD';have hWU:=kU.lst _ _ (λz=>z) hW';have hMU:=kU.lst _ _ (λz=>z) hM';have fw:=lk'.few hn;have lkb:(kb es').length=es'.length:=aK ..;have sd:Dv (.ref D) (jI x) (.bl k) U=.ok Unit.unit (U.set D (.dct (kb (es'++[(x,k)])))):=by
    show opt (jO U D) _=_;rw[hDU,jx];show opt (A.ints (x.map .int)) _=_;rw[tD,jx,Lw (by rw[lkb,cV];lia),KP c]
   have gw:PK (i7 2) (i7 5) (.bl k) [a0,jI oth,.ref D,.ref W,a4,jI x] U=.ok [a0,jI oth,.ref D,.ref W,a4,jI x] (U.set D (.dct (kb (es'++[(x,k)])))):=by
    show(Dv (.ref D) (jI x) (.bl k) U).bind _=_;rw[sd];rfl
   have lD:=Pz hDU;have hD2:jO (U.set D (.dct (kb (es'++[(x,k)])))) D=some (kb (es'++[(x,k)])):=K3 lD;have hW2:i_ (U.set D (.dct (kb (es'++[(x,k)])))) W=some (ws'.map jI):=by rw[wR hDW];exact hWU
   have hM2:i_ (U.set D (.dct (kb (es'++[(x,k)])))) M=some (L.map jI):=by rw[wR hDM];exact hMU
   have ix:=Tq hD2 (An c);have k2:nO S0 (U.set D (.dct (kb (es'++[(x,k)])))):=(kp'.trans kU).N1 (.inr hDS);have lk2:=lk'.more c px ux hk;have le2:(es'++[(x,k)]).length=es'.length+1:=by simp
   have hin2:∀l∈L.take (i+1),l∈(es'++[(x,k)]).map (·.1):=λl hl=>by
    rw[ht]at hl;rw[bT]
    rcases bh.mp hl with z|z
    ·exact bP _ (hin l z)
    ·have:l=x:=by simpa using z
     rw[this];exact aX _ (by simp)
   have e1:kH [jI x,jI oth] S'=.ok (.bl k) U:=e1
   cases k with
   | false=>
    dsimp[jD,zK,bools,Pd hD',a_ c,gg,e1,gw,ix];exact⟨_,_,rfl,_,ws',_,rfl,hD2,hW2,hM2,lk2,hin2,(),(),k2⟩
   | true=>
    have lW:=n9 hW2;have ew:ws'.map jI++[jI x]=(ws'++[x]).map jI:=by rw[bT];rfl
    dsimp[jD,zK,bools,Pd hD',a_ c,gg,e1,gw,ix,hW2,Hr (show(ws'.map jI).length<16777216 by rw[aK];lia),ew];refine⟨_,_,rfl,_,ws'++[x],_,rfl,?_,lY lW,?_,lk2,hin2,(),?_,k2.set (.inr hWS)⟩
    ·rw[vH hDW.symm];exact hD2
    ·rw[mO hWM];exact hM2
    ·rw[aU,le2];show _+1+_<=_;lia
 ·rintro τ S' ⟨es',ws',b5,rfl,hD',hW',hM',lk',hin,hle,hle2,kp'⟩;rw[aK,List.take_length]at hin;exact⟨es',ws',b5,S',rfl,hD',hW',lk',hin,hle,hle2,kp'⟩
end K52
namespace K52
open PySem L2 Am
open Bl
open Stp
open Fw (rg)
def MP{n:Nat}{xs:ad}(h:i_ S n=some xs):A.P8 (.ref n) S=some (!xs.isEmpty):=by
 show(i_ S n).map _=_;rw[h];rfl
def nv{n:Nat}{x:ae}(px:x.Perm (rg n)):x.length=n:=by rw[px.length_eq,Wd.jY]
def Fc{n:Nat}{x:ae}(px:x.Perm (rg n))(h6:n<=6):k_ [jI x,jI y,.int 6,.int 9,.int 4] S=.ok .non S:=by
 have lx:=nv px;unfold k_ oG o5;dsimp[jD,bools,nh,Nat.reduceAdd,Nat.reduceSub,aK,lx,bg (show(n:Int)<=6 by lia)]
def LR{S:jd}{n D:Nat}{es:Eb}{v:Option (ae)}(hD:jO S D=some (kb es))(lk:Lk n u y es ws v)(h1:1<=n)(hn:n<=9) :
  ∃(V:Nat) (S':jd),RS.end (RS.seq (.nx [a0,a1,.ref D,a3,a4,a5] S) (kg (jz (f1 qe) (i8 (j8 [none,none] (Fx (i7 2)) (zH 2 (qM (jU 0) (qM (jU 1) (zJ)))) (sU (i7 1)) (i7 0)) (jj)))))=.ok (.ref V) S'/\i_ S' V=some ((lN ((es.filter (·.2)).map (·.1))).map jI)/\S'=S.set D (.ins "" [])++[.lst ((es.filter (·.2)).map λe=>jI e.1)]++[.lst ((lN ((es.filter (·.2)).map (·.1))).map jI)]/\S.length<=V:=by
 have hs:Fx (i7 2) [a0,a1,.ref D,a3,a4,a5] S=.ok (mV ((kb es).map Ff)) (S.set D (.ins "" [])):=by
  show opt (jO S D) _=_;rw[hD,jx]
 have lkb:((kb es).map Ff).length=es.length:=by unfold kb;rw[aK,aK]
 have fw:=lk.few hn;obtain⟨T,g1,g2⟩:=pM (s:=mV ((kb es).map Ff)) (g:=zH 2 (qM (jU 0) (qM (jU 1) (zJ)))) (t:=sU (i7 1)) (e:=i7 0)
  (P:=λS1=>S1=S.set D (.ins "" [])) (T:=λτ=>∃y z,τ=[y,z]) (λi=>Ff ((es.getD i ([],false)).1,.bl (es.getD i ([],false)).2)) (λi=>(es.getD i ([],false)).2) (λi=>jI (es.getD i ([],false)).1)
  (λi S1 hi _=>by
   have hi:i<((kb es).map Ff).length:=hi;rw[lkb]at hi;show((kb es).map Ff)[i]?=_;unfold kb;rw[bV,aT,aI,aG hi];rfl)
  (λS1 _=>rfl)
  (λi τ S1 hi ⟨y,z,hy⟩ k=>by
   subst hy k;refine⟨[jI (es.getD i ([],false)).1,.bl (es.getD i ([],false)).2],S.set D (.ins "" []),S.set D (.ins "" []),?_,by dsimp[jD,bools],⟨_,_,rfl⟩,λ_=>rfl,λ_=>⟨_,by dsimp[jD,bools],rfl⟩⟩;unfold Ff;dsimp[jD,bools,kc (show([_,_]:ad).length=2 from rfl)])
  es.length 0 (nJ [none,none] [a0,a1,.ref D,a3,a4,a5]) (S.set D (.ins "" [])) (by show es.length+0=((kb es).map Ff).length;rw[lkb];rfl) ⟨_,_,rfl⟩ rfl
 subst g2;have ef:=BH es (λe=>e.2) (λe=>jI e.1) ([],false);rw[cG]at ef;rw[ef]at g1;obtain⟨fs,hfs⟩:∃fs:List (ae),fs=(es.filter (·.2)).map (·.1):=⟨_,rfl⟩;have efs:((es.filter (·.2)).map λe=>jI e.1)=fs.map jI:=by rw[hfs,bV];rfl
 have hne:∀l∈fs,l≠[]:=λl hl=>by
  rw[hfs]at hl;obtain⟨e,he,rfl⟩:=bA.mp hl;have:=nv (lk.pm e (bO.mp he).1);intro z;rw[z]at this;simp at this
  lia
 have ec:j8 [none,none] (Fx (i7 2)) (zH 2 (qM (jU 0) (qM (jU 1) (zJ)))) (sU (i7 1)) (i7 0) [a0,a1,.ref D,a3,a4,a5] S=.ok (.ref (S.set D (.ins "" [])).length) (S.set D (.ins "" [])++[.lst (fs.map jI)]):=by
  unfold j8;rw[hs,R.kP];show R.kQ (l5 (mV ((kb es).map Ff)) _ _ _ ((kb es).map Ff).length 0 _ _) _=_;rw[lkb,g1,R.ku,jQ (by rw[aK];exact bS (dg _ _) ()),efs]
 have so:=ED (S:=S.set D (.ins "" [])++[.lst (fs.map jI)]) (n:=(S.set D (.ins "" [])).length) jq hne;dsimp[jD,bools,ec,so];rw[hfs]at so ⊢;refine⟨_,_,rfl,jq,by rw[efs,hfs],?_⟩;rw[aU,bG];lia
def BC{S:jd}{n:Nat}{x y:ae}(px:x.Perm (rg n))(py:y.Perm (rg n))(h1:1<=n)(h6:n<=6)(q:ae->Bool)(hq:∀z,z.Perm (rg n)->(q z=true ↔ Below x z/\Below z y)):∃(V:Nat) (S':jd),nN [jI x,jI y] S=.ok (.ref V) S'/\i_ S' V=some (((Eu.inj n n).filter q).map jI)/\nO S S'/\S.length<=V:=by
 have hn:n<=9:=()
 have h2:n<=20:=()
 have lx:=nv px;have ly:=nv py;have ep:=sS (S:=S) (xs:=x) (ys:=y) ();have e1:=Fc (S:=S) (y:=y) px h6;obtain⟨k,S2,e2,hk,k2⟩:=A5 (S:=S) (n:=n) px py h1 h2;have k12:=k2
 cases k with
 | false=>
  unfold nN qS qO;dsimp[jD,zK,bools,nh,Nat.reduceAdd,Nat.reduceSub,ep,e1,e2,gg];have e0:(Eu.inj n n).filter q=[]:=List.filter_eq_nil_iff.mpr λz hz hqz=>by
   obtain⟨z1,z2⟩:=(hq z (Eu.qT.mp hz)).mp hqz;exact absurd (hk.mpr (z1.trans z2)) bq
  rw[e0];exact⟨_,_,rfl,jq,k12.lay,k12.len⟩
 | true=>
  have ed:Jv (i7 0) (eC (.bl true)) [jI x,jI y,.unb,.unb,.unb,.unb] S2=.ok (.ref S2.length) (S2++[.dct (kb [(x,true)])]):=by
   show opt (A.ints (x.map .int)) _=_;rw[tD,jx];rfl
  have l1:(S2++[O.dct (kb [(x,true)])]).length=S2.length+1:=by simp
  have key:=qu (t:=qK) (c:=qD)
   (λτ T=>∃(a4 a5:A) (es:Eb) (ws:List (ae)),τ=[jI x,jI y,.ref S2.length,.ref (S2.length+1),a4,a5]/\jO T S2.length=some (kb es)/\i_ T (S2.length+1)=some (ws.map jI)/\Lk n x y es ws none/\ws.length<=es.length/\nO S2 T)
   (λ_ T=>2 * (362880-((jO T S2.length).getD []).length)+((i_ T (S2.length+1)).getD []).length)
   (λr=>∃(V:Nat) (S':jd),RS.end (RS.seq r (kg (jz (f1 qe) (i8 (j8 [none,none] (Fx (i7 2)) (zH 2 (qM (jU 0) (qM (jU 1) (zJ)))) (sU (i7 1)) (i7 0)) (jj)))))=.ok (.ref V) S'/\i_ S' V=some (((Eu.inj n n).filter q).map jI)/\nO S S'/\S.length<=V) ?_ 1000000
  ·unfold nN qS qO;dsimp[jD,zK,bools,nh,Nat.reduceAdd,Nat.reduceSub,ep,e1,e2,gJ,ed,l1];have hd0:jO (S2++[O.dct (kb [(x,true)])]++[O.lst [jI x]]) S2.length=some (kb [(x,true)]):=La Lf;have hw0:i_ (S2++[O.dct (kb [(x,true)])]++[O.lst [jI x]]) (S2.length+1)=some [jI x]:=by rw[<- l1];exact jq
   refine key _ _ ⟨_,_,[(x,true)],[x],rfl,hd0,hw0,⟨by simp,λe he=>?_,λw hw=>?_,λe he=>?_,λe he=>?_,by simp,λe he _=>?_⟩,aP _,Kp.refl.lay.lay⟩ ?_
   ·have:e=(x,true):=by simpa using he
    rw[this];exact px
   ·have:w=x:=by simpa using hw
    rw[this];simp
   ·have:e=(x,true):=by simpa using he
    rw[this];exact Below.refl _
   ·have:e=(x,true):=by simpa using he
    rw[this];exact hk
   ·have:e=(x,true):=by simpa using he
    rw[this];left;simp
   ·rw[hd0,hw0];show 2 * (362880-1)+1<1000000;decide
  ·rintro τ T ⟨a4,a5,es,ws,rfl,hD,hW,lk,hwe,kp⟩;have fw:=lk.few hn;unfold qK;have lk2:(kb es).length=es.length:=aK ..
   rcases gA ws with c|⟨vs,v,c⟩
   ·left;subst c;obtain⟨V,T2,e3,h3,hT2,hV⟩:=LR (a0:=jI x) (a1:=jI y) (a3:=.ref (S2.length+1)) (a4:=a4) (a5:=a5) hD lk h1 hn;have dn:Eu.Done n x y es:=⟨lk.nd,lk.pm,lk.up,lk.fl,lk.st,λe he h2=>by
     rcases lk.cl e he h2 with z|z|z
     ·cases z
     ·cases z
     ·exact z⟩
    rw[dn.told q hq]at h3;have l2:=k12.len;have lT:=kp.len;refine⟨T,by dsimp[jD,bools,MP hW];rfl,V,T2,e3,h3,?_,()⟩;rw[hT2];exact k12.trans (((kp.N1 (.inr (aP _))).lay).lay)
   ·right;rw[gB]at c;subst c;have tr:A.P8 (.ref (S2.length+1)) T=some true:=by
     rw[MP hW]
     cases vs<;>rfl
    refine⟨T,by dsimp[jD,bools,tr],.inl ?_⟩;have ev:=lk.wt v (by simp);have pv:v.Perm (rg n):=lk.pm _ ev;have uv:Below x v:=lk.up _ ev;have lv:=nv pv;have pop:N2 (.ref (S2.length+1)) [] T=.ok (jI v) (T.set (S2.length+1) (.lst (vs.map jI))):=by
     show opt (i_ T (S2.length+1)) _=_;rw[hW,jx,bT];show opt ((vs.map jI++[jI v])[(vs.map jI++[jI v]).length-1]?) _=_;rw[aU,show(vs.map jI).length+[jI v].length-1=(vs.map jI).length by simp,dN (aP _),fG];show R.ok (jI v) (T.set (S2.length+1) (.lst (vs.map jI++[jI v]).dropLast))=_;rw[List.dropLast_concat]
    have lW:=n9 hW;have hD1:jO (T.set (S2.length+1) (.lst (vs.map jI))) S2.length=some (kb es):=by rw[vH ()];exact hD
    obtain⟨M,U,e4,hM,k4,sM⟩:=Kz (S:=T.set (S2.length+1) (.lst (vs.map jI))) (a:=v) () ();have hDU:=k4.dct _ _ (λz=>z) hD1;have hWU:=k4.lst _ _ (λz=>z) (lY (ys:=vs.map jI) lW);rw[bG]at sM;have hsrc:oz [jI x,jI y,.ref S2.length,.ref (S2.length+1),jI v,a5] (T.set (S2.length+1) (.lst (vs.map jI)))=.ok (l8 M ((lN (stp v (ups v))).map jI).length) U:=
     ue (by dsimp[jD,bools,e4]) hM
    have kU:nO S2 U:=(kp.set (.inr ())).trans k4;rw[aU]at hwe;have hwe':vs.length+1<=es.length:=hwe;have lk0:Lk n x y es vs (some v):=⟨lk.nd,lk.pm,λw hw=>lk.wt w (bP _ hw),lk.up,lk.fl,lk.st,λe he h2=>by
     rcases lk.cl e he h2 with z|z|z
     ·rcases bh.mp z with z|z
      ·exact .inl z
      ·have:e.1=v:=by simpa using z
       rw[this];exact .inr (.inl rfl)
     ·cases z
     ·exact .inr (.inr z)⟩
    obtain⟨es',ws',b5,S',e5,hD',hW',lk',hin,hle,hle2,kp'⟩:=looked (S0:=S2) hn h1 py hDU hWU hM (λl hl=>by
     obtain⟨i,j,c1,c2,c3,c4,rfl⟩:=(D_ lv).mp hl;exact⟨(Stp.LK c1 ()).trans pv,uv.trans (OW pv c1 c2 c3)⟩) lk0 (aP _) () () () () () kU hsrc
    have lkn:Lk n x y es' ws' none:=⟨lk'.nd,lk'.pm,lk'.wt,lk'.up,lk'.fl,lk'.st,λe he h2=>by
     rcases lk'.cl e he h2 with z|z|z
     ·exact .inl z
     ·have z:e.1=v:=aR z;right;right;intro i j c1 c2 c3 c4;rw[z]at c3 c4 ⊢;exact hin _ ((D_ lv).mpr ⟨i,j,c1,c2,c3,c4,rfl⟩)
     ·exact .inr (.inr z)⟩
    unfold qD;dsimp[jD,zK,bools,hW,pop,e5];refine⟨_,_,rfl,⟨_,_,es',ws',rfl,hD',hW',lkn,(),kp'⟩,?_⟩;have fw':=lk'.few hn;have lk3:(kb es').length=es'.length:=aK ..;dsimp[hD',hW',hD,hW,fC,aK,aU,lk2,lk3];show 2 * (362880-es'.length)+ws'.length<2 * (362880-es.length)+(vs.length+1)
    lia
end K52
namespace K52
open PySem L2 Am
def Uq(xs:ad)(j:Nat)(h:j<=xs.length):sI xs none (some (j:Int))=xs.take j:=by
 unfold sI;rw[HT.pU,HT.zW,iV,iT (),Nat.sub_zero]
def VZ{us:ae}{t:Nat}(h:t<us.length):F9 (.tup (us.map .int)) none (some (t:Int)) S=.ok (.tup ((us.take t).map .int)) S:=by
 have hg:¬(HT.kX (us.map A.int).length 0 none=0/\HT.kX (us.map A.int).length (us.map A.int).length (some (t:Int))=(us.map A.int).length):=by
  rw[HT.pU,aK]
  lia
 have hs:F9 (.tup (us.map .int)) none (some (t:Int)) S=.ok (.tup (sI (us.map .int) none (some (t:Int)))) S:=kc hg;rw[hs,Uq _ t (by rw[aK];lia),map_take]
def VV{us:ae}{t:Nat}(h0:1<=t)(h:t<=us.length):F9 (.tup (us.map .int)) (some (t:Int)) none S=.ok (.tup ((us.drop t).map .int)) S:=by
 have hg:¬(HT.kX (us.map A.int).length 0 (some (t:Int))=0/\HT.kX (us.map A.int).length (us.map A.int).length none=(us.map A.int).length):=by
  rw[HT.pU,aK]
  lia
 have hs:F9 (.tup (us.map .int)) (some (t:Int)) none S=.ok (.tup (sI (us.map .int) (some (t:Int)) none)) S:=kc hg;rw[hs];congr 2;unfold sI;rw[HT.pU,HT.zW,aK,iT (),cQ (by simp),map_drop]
def Ph{xs:ae}{k:Nat}(h0:1<=k)(h:k<xs.length):xs.take (k-1)++[xs.getD k 0,xs.getD (k-1) 0]++xs.drop (k+1)=Wd.ex xs k:=by
 apply b_;intro p;rw[Wd.mX h0 h,bH];have e1:xs[k]?=some (xs.getD k 0):=by rw[aI,aG h];rfl
 have e2:xs[k-1]?=some (xs.getD (k-1) 0):=by rw[aI,aG ()];rfl
 by_cases c1:p<k-1
 ·rw[bD (by rw[bw];lia),cY c1,aM (),aM ()]
 ·rw[dN (by rw[bw];lia),bw,iT ()];by_cases c2:p=k-1
  ·rw[aM (),aN c2,e1,show p-(k-1)=0 by lia];rfl
  ·by_cases c3:p=k
   ·rw[aN c3,e2,show p-(k-1)=1 by lia];rfl
   ·rw[aM c3,aM c2,show p-(k-1)=(p-(k+1))+2 by lia];show(xs.drop (k+1))[p-(k+1)]?=_;rw[eU,show k+1+(p-(k+1))=p by lia]
open Fw (rg)
open Wd (ex)
def HC{xs ys:ae}(h:xs.length+ys.length<=16777216):kW (.tup (xs.map .int)) (.tup (ys.map .int)) S=.ok (.tup ((xs++ys).map .int)) S:=by
 rw[bT];exact Lw (by rw[aK,aK];exact h)
def HK{xs:ae}{k:Nat}(k1:1<=k)(k2:k<xs.length)(hl:xs.length<=1000):jV [jI xs,.int k] S=.ok (jI (ex xs k)) S:=by
 have s1:F9 (.tup (xs.map .int)) none (some ((k:Int)-1)) S=.ok (.tup ((xs.take (k-1)).map .int)) S:=by
  rw[show(k:Int)-1=((k-1:Nat):Int)by lia];exact VZ ()
 have s2:F9 (.tup (xs.map .int)) (some ((k:Int)+1)) none S=.ok (.tup ((xs.drop (k+1)).map .int)) S:=by
  rw[show(k:Int)+1=((k+1:Nat):Int)by lia];exact VV () ()
 have x1:mC (xs.map A.int) (k:Int)=some (.int (xs.getD k 0)):=Mi rfl ();have x2:mC (xs.map A.int) ((k:Int)-1)=some (.int (xs.getD (k-1) 0)):=Mi (k:=k-1) () ();have d1:kW (.tup ((xs.take (k-1)).map .int)) (.tup [.int (xs.getD k 0),.int (xs.getD (k-1) 0)]) S=.ok (.tup ((xs.take (k-1)++[xs.getD k 0,xs.getD (k-1) 0]).map .int)) S:=
  HC (ys:=[xs.getD k 0,xs.getD (k-1) 0]) (by rw[bw];show _+2<=_;lia)
 have d2:kW (.tup ((xs.take (k-1)++[xs.getD k 0,xs.getD (k-1) 0]).map .int)) (.tup ((xs.drop (k+1)).map .int)) S=.ok (.tup ((ex xs k).map .int)) S:=by
  rw[HC (by rw[aU,bw,cB];show _+2+_<=_;lia),Ph k1 k2]
 unfold jV nE nB;dsimp[jD,zK,bools,nh,Nat.reduceAdd,Nat.reduceSub,s1,x1,x2,Lw (show 2<=sizeLine by rw[cV];decide),d1,s2,d2]
end K52
namespace K52
open PySem L2 Am
open Wd (ex led jN)
open Fw (rg)
abbrev fl (xs:ae)(n:Nat):ae:=(jw 1 (n:Int)).filter λk=>decide (xs.getD (k-1).toNat 0>xs.getD k.toNat 0)
def HA{xs:ae}{n:Nat}{k:Int}:k∈fl xs n ↔ 1<=k/\k<n/\xs.getD k.toNat 0<xs.getD (k-1).toNat 0:=by
 unfold fl;rw[bO,lg,fY];constructor
 ·exact λh=>⟨h.1.1,h.1.2,h.2⟩
 ·exact λh=>⟨⟨h.1,h.2.1⟩,h.2.2⟩
def downs{S:jd}{n:Nat}{xs:ae}(hlen:xs.length=n)(h2:n<=20):j8 [none,some 0] (ng (eC (.int 1)) (jz (f1 mD) (i8 (i7 0) (jj)))) (jU 0) (nG (jc yq (jc lC (i7 1) (jc aSub (i7 0) (eC (.int 1)))) (jc lC (i7 1) (i7 0)))) (i7 0) [jI xs,w1,w2] S=.ok (.ref S.length) (S++[.lst ((fl xs n).map .int)]):=by
 have ec:=GJ (lo:=1) (hi:=(n:Int)) (cap:=[some 0]) (src:=ng (eC (.int 1)) (jz (f1 mD) (i8 (i7 0) (jj)))) (t:=nG (jc yq (jc lC (i7 1) (jc aSub (i7 0) (eC (.int 1)))) (jc lC (i7 1) (i7 0)))) (e:=i7 0) (τ:=[jI xs,w1,w2]) (S:=S) (S1:=S)
  (pC (S1:=S) (by dsimp[jD,bools]) (by dsimp[jD,bools,aK,hlen]) (kj () ()) (kj () ()))
  (λk=>decide (xs.getD (k-1).toNat 0>xs.getD k.toNat 0)) (λk=>.int k) (λk h1 h2=>by
   have x1:mC (xs.map A.int) (k-1)=some (.int (xs.getD (k-1).toNat 0)):=QF () ();have x2:mC (xs.map A.int) k=some (.int (xs.getD k.toNat 0)):=QF () ();dsimp[jD,bools,x1,x2]) (λk _ _ _=>by dsimp[jD,bools]) ()
 exact ec
def z6{x:A}:mC (xs++[x]) (-1)=some x:=by
 have e:vh (xs++[x]).length (-1)=some xs.length:=by
  unfold vh;rw[aU,dc,aM (),aN ()];congr 1
  lia
 unfold mC;rw[e,cC];simp
abbrev kI (k:Nat):A:=.int k
def LH{S:jd}{n:Nat}{a:ae}(pa:a.Perm (rg n))(hn:n<=20):∃(W:Nat) (w:ag) (S':jd),kK [jI a] S=.ok (.ref W) S'/\i_ S' W=some (w.map kI)/\jN (rg n) w/\led (rg n) w=a/\nO S S'/\S.length<=W:=by
 have la:=nv pa;have iv:=Iv.uA a;have i4:a.length * a.length<=400:=by rw[la];exact iZ hn hn
 have key:=qu (t:=nM) (c:=pY)
  (λτ T=>∃(z:ae) (v:ag) (D:Nat),τ=[jI z,.ref S.length,.ref D]/\z.Perm (rg n)/\i_ T S.length=some (v.map kI)/\i_ T D=some ((fl z n).map .int)/\S.length<D/\jN z v.reverse/\led z v.reverse=a/\v.length+Iv.inv z=Iv.inv a/\nO S T)
  (λτ _=>match τ with
   | .tup xs::_=>Iv.inv ((A.ints xs).getD [])
   | _=>0)
  (λr=>∃(W:Nat) (w:ag) (S':jd),RS.end (RS.seq r (kg (Bj xG (i7 1))))=.ok (.ref W) S'/\i_ S' W=some (w.map kI)/\jN (rg n) w/\led (rg n) w=a/\nO S S'/\S.length<=W) ?_ 1000000
 ·unfold kK rC rG;dsimp[jD,bools,nh,Nat.reduceAdd,Nat.reduceSub,jQ (show([]:ad).length<=16777216 by simp),downs la hn];refine key _ _ ⟨a,[],(S++[O.lst []]).length,rfl,pa,kq jq,jq,by simp,trivial,rfl,by simp,Kp.refl.lay.lay⟩ ?_;show Iv.inv ((A.ints (a.map .int)).getD [])<_;rw[ints_map];show Iv.inv a<_
  lia
 ·rintro τ T ⟨z,v,D,rfl,pz,hW,hD,lD,hr,hl,hi,kp⟩;have lz:=nv pz;have hD':i_ (T++[O.lst []]) D=some ((fl z n).map .int):=kq hD;have te:nM [jI z,.ref S.length,.ref D] T=.ok (!(fl z n).isEmpty) (T++[O.lst []]):=by
   unfold nM;have e:=eq_nil hD' (jq (S:=T) (xs:=[]));rw[List.isEmpty_map]at e;dsimp[jD,bools,jQ (show([]:ad).length<=16777216 by simp),yY e]
  rcases gA (fl z n)with c|⟨l',kk,c⟩
  ·left;refine⟨_,by rw[te,c];rfl,?_⟩;have ez:z=rg n:=Fw.IM pz λk hk=>by
    have:(k:Int)∈fl z n:=HA.mpr ⟨by have:=hk.1;lia,by have:=hk.2.1;lia,by
     rw[show((k:Int)-1).toNat=k-1 by have:=hk.1;lia,b9];exact hk.2.2⟩
    rw[c]at this;cases this
   subst ez;have hW':i_ (T++[O.lst []]) S.length=some (v.map kI):=kq hW;refine⟨(T++[O.lst []]).length,v.reverse,T++[O.lst []]++[O.lst (v.map kI).reverse],?_,?_,hr,hl,kp.lay.lay,?_⟩
   ·dsimp[jD,bools,hW']
   ·rw[gE];exact jq
   ·have:=kp.len;rw[aU];lia
  ·right;rw[gB]at c;refine⟨T++[O.lst []],by rw[te,c];simp,.inl ?_⟩;obtain⟨k1,k2,k3⟩:=HA.mp (show kk∈fl z n by rw[c];simp);obtain⟨k,rfl⟩:∃k:Nat,kk=k:=⟨kk.toNat,()⟩;rw[show((k:Int)-1).toNat=k-1 by lia,b9]at k3;have k1:1<=k:=()
   have k2:k<n:=()
   have pe:=Eu.QD pz k1 k2;have hW':i_ (T++[O.lst []]) S.length=some (v.map kI):=kq hW;have ix:mC ((fl z n).map A.int) (-1)=some (.int k):=by rw[c,bT];exact z6
   have lx:=HK (S:=T++[O.lst []]) (xs:=z) (k:=k) k1 () ();have lT:=kp.len;have vl:(v.map kI).length<16777216:=by rw[aK];lia
   have hDs:i_ ((T++[O.lst []]).set S.length (.lst (v.map kI++[.int k]))) D=some ((fl z n).map .int):=by rw[wR ()];exact hD'
   unfold pY;dsimp[jD,bools,hD',ix,lx,hW',Hr vl,downs (nv pe) hn];have li:=n9 hW';have iu:=Fw.zB (l:=ex z k) k1 (by rw[Wd.mW];lia) (by rw[Eu.lo pz k1 k2,Eu.hi pz k1 k2];exact k3);rw[Eu.PZ pz k1 k2]at iu;refine⟨_,_,rfl,⟨ex z k,v++[k],_,rfl,pe,?_,jq,by rw[bG,aU,dc];lia,?_,?_,?_,(kp.lay.set (.inr (aP _))).lay⟩,?_⟩
   ·rw[bT];exact kq (lY li)
   ·rw[gZ];refine⟨k1,by rw[Wd.mW];lia,by rw[Eu.lo pz k1 k2,Eu.hi pz k1 k2];exact k3,?_⟩;rw[Eu.PZ pz k1 k2];exact hr
   ·rw[gZ];show led (ex (ex z k) k) v.reverse=a;rw[Eu.PZ pz k1 k2];exact hl
   ·rw[aU,dc];lia
   ·show Iv.inv ((A.ints ((ex z k).map .int)).getD [])<Iv.inv ((A.ints (z.map .int)).getD []);rw[ints_map,ints_map];show Iv.inv (ex z k)<Iv.inv z
    lia
end K52
namespace K52
open PySem L2 Am
open Wd (ex led jN)
open Fw (rg)
open Eu (Lo)
abbrev pT (m:Nat)(ks:List (ae)):ae:=(List.range (m+1)).map λj=>((ks.countP λz=>Iv.inv z == j:Nat):Int)
def sq(m:Nat)(ks:List (ae)):(pT m ks).length=m+1:=by unfold pT;rw[aK,cW]
def UL{N:Nat}(hN:N<=1000)(T:jd):p6 (.rng 1 ((N:Int)+1)) T=.ok (jI (rg N)) T:=wI (wD (show(-1000000:Int)<=1 by decide) ⋯ (show -1000000<=(N:Int)+1 by lia) () ())
end K52
namespace K52
open PySem L2 Am
open Wd (ex led jN)
open Fw (rg)
open Eu (Lo inj)
open Bl
def vg{ks:List (ae)}(h:j<=m):(pT m ks).getD j 0=((ks.countP λz=>Iv.inv z == j:Nat):Int):=by
 unfold pT;rw[aI,aT,bR ()];rfl
def Gh{l:ae}(h:Iv.inv l<=m):(pT m ks).set (Iv.inv l) ((pT m ks).getD (Iv.inv l) 0+1)=pT m (ks++[l]):=by
 rw[vg h];refine b_ λj=>?_;by_cases hj:j<m+1
 ·have g:∀ks',(pT m ks')[j]?=some ((ks'.countP λz=>Iv.inv z == j:Nat):Int):=λks'=>by unfold pT;rw[aT,bR hj];rfl
  rw[g,d8,sq,List.countP_append,b7,iR];by_cases e:Iv.inv l=j
  ·subst e;rw[aN rfl,aN hj,aN (by simp)];congr 1
  ·rw[aM e,g,aM (by simpa using e)];rfl
 ·rw[bC (by rw[bG,sq];lia),bC (by rw[sq];lia)]
abbrev qd (n:Nat)(a z:ae):Bool:=@decide (Below (rg n) z/\Below z a) (Classical.propDecidable _)
def Bq{n:Nat}{a:ae}:qd n a z=true ↔ Below (rg n) z/\Below z a:=@fY _ (Classical.propDecidable _)
def BN{n:Nat}{z:ae}(pz:z.Perm (rg n)):Below (rg n) z:=by
 obtain⟨h1,h2⟩:=He.NF pz;have:=Wd.rD h1;rw[h2]at this;exact this
def Ik{n:Nat}{a:ae}:Lo n a ((inj n n).filter (qd n a)) where
 nd:=by
  refine gC c_ (gv (λ{a b} h z=>?_) (Eu.zp n));rw[z,Sx.qV]at h;cases h
 mm:=λz=>by
  rw[bO,Eu.qT,Bq];exact⟨λh=>⟨h.1,h.2.2⟩,λh=>⟨h.1,BN h.1,h.2⟩⟩
def Gm{n:Nat}(hn:n<=20):k8 [.int n] S=.ok (jI (rg n)) S:=by
 unfold k8 pq oJ;dsimp[jD,bools,nh,Nat.reduceAdd,Nat.reduceSub,UL (show n<=1000 by lia)]
def Dg{n:Nat}{x:ae}(px:x.Perm (rg n))(h1:1<=n)(h2:n<=20):∃S',mh [jI x] S=.ok (.int (Iv.inv x:Nat)) S'/\nO S S':=by
 obtain⟨P,S1,e1,g1,k1,_⟩:=Sv (S:=S) (nv px) h2;unfold mh wW vK;dsimp[jD,bools,nh,Nat.reduceAdd,Nat.reduceSub,e1,g1,P1 (nv px) h1];exact⟨_,rfl,k1⟩
def wK{S:jd}{n:Nat}{a:ae}(pa:a.Perm (rg n))(h1:1<=n)(hn:n<=6):∃(D:Nat) (S':jd),pV [jI a] S=.ok (.ref D) S'/\i_ S' D=some ((pT (Iv.inv a) ((inj n n).filter (qd n a))).map .int)/\nO S S'/\S.length<=D:=by
 have la:=nv pa;have iv:=Iv.uA a;have i4:a.length * a.length<=36:=by rw[la];exact iZ hn hn
 obtain⟨S1,e1,k1⟩:=Dg (S:=S++[O.lst [.int 0]]) pa h1 ();have h0:i_ S1 S.length=some [.int 0]:=k1.lst _ _ (λz=>z) jq;have em:sE (.ref S.length) (.int ((Iv.inv a:Nat)+1)) S1=.ok (.ref S1.length) (S1++[O.lst ((pT (Iv.inv a) []).map .int)]):=by
  have:=MH (k:=Iv.inv a+1) h0 ();have e:(pT (Iv.inv a) []).map A.int=List.replicate (Iv.inv a+1) (.int 0):=by
   unfold pT;rw[bV];refine List.eq_replicate_iff.mpr ⟨by simp,λx hx=>?_⟩;obtain⟨q,_,rfl⟩:=bA.mp hx;rfl
  rw[e];exact this
 obtain⟨V,S2,e2,hV,k2,lV⟩:=BC (S:=S1++[O.lst ((pT (Iv.inv a) []).map .int)]) (cZ (rg n)) pa h1 hn (qd n a) (λz _=>Bq);have hD2:i_ S2 S1.length=some ((pT (Iv.inv a) []).map .int):=k2.lst _ _ (λz=>z) jq;have l1:=k1.len;rw[aU,dc]at l1;rw[aU,dc]at lV;unfold pV vp yQ;dsimp[jD,bools,nh,Nat.reduceAdd,Nat.reduceSub,aK,la,a_ (show ¬(6:Int)<n by lia),jQ (show([.int 0]:ad).length<=16777216 by simp),e1,em];refine EM (n:=V) (xs:=((inj n n).filter (qd n a)).map jI) (S1:=S2) (show yi _ _=_ from ue (by dsimp[jD,bools,aK,la,Gm (show n<=20 by lia),e2]) hV)
  (λi τ T=>(∃b2,τ=[jI a,.ref S1.length,b2])/\i_ T V=some (((inj n n).filter (qd n a)).map jI)/\i_ T S1.length=some ((pT (Iv.inv a) (((inj n n).filter (qd n a)).take i)).map .int)/\nO S T)
  (λr=>∃(D:Nat) (S':jd),RS.end (RS.seq r _)=.ok (.ref D) S'/\i_ S' D=some ((pT (Iv.inv a) ((inj n n).filter (qd n a))).map .int)/\nO S S'/\S.length<=D)
  ⟨⟨_,rfl⟩,hV,hD2,(((Kp.refl.lay).trans k1).lay).trans k2⟩ (λi τ T h=>h.2.1) ?_ ?_
 ·rintro i x τ T hx ⟨⟨b2,rfl⟩,hM,hD,kp⟩;rw[aT]at hx;obtain⟨l,hl,rfl⟩:=br.mp hx;obtain⟨hi,el⟩:=aJ.mp hl;obtain⟨pl,bl⟩:=(Ik.mm l).mp (aY hl);have ml:=(Eu.mono pa _ l rfl pl bl).1;refine⟨[jI a,.ref S1.length,jI l],T,rfl,.inl ?_⟩;obtain⟨T1,e3,k3⟩:=Dg (S:=T) pl h1 ();have hD1:=k3.lst _ _ (λz=>z) hD;have hM1:=k3.lst _ _ (λz=>z) hM;have cl:=sq (Iv.inv a) (((inj n n).filter (qd n a)).take i);have x1:((pT (Iv.inv a) (((inj n n).filter (qd n a)).take i)).map A.int)[((Iv.inv l:Nat):Int).toNat]?=some (.int ((pT (Iv.inv a) (((inj n n).filter (qd n a)).take i)).getD (Iv.inv l) 0)):=by
   rw[b9,aT,aI,aG ()];rfl
  have x2:vh ((pT (Iv.inv a) (((inj n n).filter (qd n a)).take i)).map A.int).length ((Iv.inv l:Nat):Int)=some (Iv.inv l):=tX rfl (by rw[aK];lia);unfold yt;dsimp[jD,zK,bools,e3,hD1,kc (show(0:Int)<=((Iv.inv l:Nat):Int)by lia),x1,x2];have lt:=n9 hD1;refine⟨_,_,rfl,⟨_,rfl⟩,by rw[mO ()];exact hM1,?_,(kp.trans k3).set (.inr ())⟩;rw[lY lt,c7 hi,el,<- Gh ml,gu]
 ·rintro τ T ⟨⟨b2,rfl⟩,hM,hD,kp⟩;rw[aK,List.take_length]at hD;dsimp[jD,bools];exact⟨_,_,rfl,hD,kp,()⟩
end K52
namespace K52
open PySem L2 Am
abbrev At (xs:ae)(i:Int):Int:=xs.getD (i-1).toNat 0
def Bw{xs:ae}{i:Int}(h1:1<=i)(h2:i<=xs.length):xs[(i-1).toNat]?=some (At xs i):=by
 unfold At;rw[aI,aG ()];rfl
abbrev B9 (xs:ae)(i j k m:Nat):Prop:=i<j/\j<k/\k<m/\m<xs.length/\Fo.P (At xs ((i:Int)+1)) (At xs ((j:Int)+1)) (At xs ((k:Int)+1)) (At xs ((m:Int)+1))
abbrev NB (xs:ae)(i j k m:Int):Prop:=∀i' j' k' m':Nat,B9 xs i' j' k' m'->i<i'\/i=i'/\(j<j'\/j=j'/\(k<k'\/k=k'/\m<=m'))
abbrev Told (xs:ae)(r:A):Prop:=(r=.non/\∀i j k m,¬B9 xs i j k m)\/∃i j k m:Nat,r=.tup [.int ((i:Int)+1),.int ((j:Int)+1),.int ((k:Int)+1),.int ((m:Int)+1)]/\B9 xs i j k m/\NB xs i j k m
def CZ{n:Nat}{xs ys:ae}(h:i_ S n=some (xs.map .int))(h':i_ S m=some (ys.map .int)):xw S 12 (.ref n) (.ref m)=some (decide (xs=ys)):=by
 show(i_ S n).bind (λxs=>(i_ S m).bind λys=>ug (xw S 11) xs ys)=_;rw[h,cC,h',cC];exact tP xs ys
def CL{xs:ae}{v:Int}(h:v∈xs):∃k,xs.findIdx? (· == v)=some k/\xs[k]?=some v:=by
 cases e:xs.findIdx? (· == v)with
 | none=>
  rw[List.findIdx?_eq_none_iff]at e;have:=e v h;simp at this
 | some k=>
  rw[f_]at e;obtain⟨hk,h1,_⟩:=e;refine⟨k,rfl,?_⟩;rw[aG hk];simpa using h1
def MF {xs:ae}(hp:xs.Pairwise (·<=·)){p q:Nat}{v w:Int}(h:xs[p]?=some v)(h':xs[q]?=some w)(hlt:v<w):p<q:=by
 obtain⟨l1,e1⟩:=aJ.mp h;obtain⟨l2,e2⟩:=aJ.mp h'
 rcases Nat.lt_trichotomy p q with z|z|z
 ·exact z
 ·subst z;rw[h]at h';cases h';lia
 ·have:=cT.mp hp q p l2 l1 z
  lia
def BK{L:Nat}{a b c d:Int}(hL:i_ S L=some [.int a,.int b,.int c,.int d])(n1:a≠b)(n2:a≠c)(n3:a≠d)(n4:b≠c)(n5:b≠d)(n6:c≠d) :
  ∃r S',lZ [.ref L] S=.ok (.bl r) S'/\nO S S'/\(r=true ↔ Fo.P a b c d):=by
 have hpm:=sortI_perm [a,b,c,d];have hpw:=wA [a,b,c,d];generalize hsrt:sortI [a,b,c,d]=srt at hpm hpw;have hlen:srt.length=4:=hpm.length_eq;have hin:∀v,v∈[a,b,c,d]->v∈srt:=λv h=>hpm.mem_iff.mpr h;obtain⟨ia,xa,ya⟩:=CL (hin a (by simp));obtain⟨ib,xb,yb⟩:=CL (hin b (by simp));obtain⟨ic,xc,yc⟩:=CL (hin c (by simp));obtain⟨id',xd,yd⟩:=CL (hin d (by simp));have la:=Fo.qW ya;have lb:=Fo.qW yb;have lc:=Fo.qW yc;have ld:=Fo.qW yd;have es:qe (.ref L) S=.ok (.ref S.length) (S++[.lst (srt.map .int)]):=by
  have it:QH (.ref L) S=false:=by unfold QH;show(match i_ S L with|some (A.tup _::_)=>true|_=>false)=false;rw[hL]
  unfold qe;rw[it];show BV (.ref L) S=_;show opt (i_ S L) _=_;rw[hL,jx];have:A.ints [.int a,.int b,.int c,.int d]=some [a,b,c,d]:=ints_map [a,b,c,d];rw[this,jx,kc (show([a,b,c,d]:ae).length<64 by simp),hsrt]
 have hL1:i_ (S++[.lst (srt.map .int)]) L=some [.int a,.int b,.int c,.int d]:=kq hL;have hS1:i_ (S++[.lst (srt.map .int)]) S.length=some (srt.map .int):=jq;have hfl:(srt.map A.int).all A.flat=true:=by rw[all_map];exact eG.mpr λ_ _=>rfl
 have ei:∀(v:Int) (k:Nat) (y:A),srt.findIdx? (· == v)=some k->F2 (i7 1) (i8 (i7 0) (jj)) [.int v,.ref S.length] (S++[.lst (srt.map .int)])=.ok (.int (k:Int)) (S++[.lst (srt.map .int)]):=λv k _ e=>by
  have e2:(srt.map A.int).findIdx? (λz=>QN z (.int v))=some k:=by
   rw[List.findIdx?_map];exact e
  have e3:A.seq (S++[.lst (srt.map .int)]) (.ref S.length)=some (srt.map .int):=hS1;unfold F2 Qu;dsimp[jD,bools,e3,e2,kc (show A.flat (.int v)=true/\(srt.map A.int).all A.flat=true from⟨rfl,hfl⟩)]
 have ec:=uB (s:=l8 L 4) (cap:=[some 1]) (src:=qi (i7 0)) (t:=uS) (e:=F2 (i7 1) (i8 (i7 0) (jj))) (τ:=[.ref L,.ref S.length]) (S:=S++[.lst (srt.map .int)]) (S1:=S++[.lst (srt.map .int)]) (ue (xs:=[.int a,.int b,.int c,.int d]) (by dsimp[jD,bools]) hL1)
  (λi=>match i with|0=>.int a|1=>.int b|2=>.int c|_=>.int d) (λ_=>true) (λi=>match i with|0=>.int (ia:Int)|1=>.int (ib:Int)|2=>.int (ic:Int)|_=>.int (id':Int))
  (λi hi=>by
   have hi:i<4:=hi;show(i_ _ L).bind (·[i]?)=_;rw[hL1]
   match i,hi with
   | 0,_=>rfl
   | 1,_=>rfl
   | 2,_=>rfl
   | 3,_=>rfl) (by
   show(match i_ (S++[.lst (srt.map .int)]) L with
    | some ys=>decide (ys.length<=4)
    | none=>false)=true
   rw[hL1];rfl) (λ_ _=>rfl) (λi hi _=>by
   have hi:i<4:=hi
   match i,hi with
   | 0,_=>exact ei a ia .non xa
   | 1,_=>exact ei b ib .non xb
   | 2,_=>exact ei c ic .non xc
   | 3,_=>exact ei d id' .non xd) (by show 4<=16777216;decide)
 have ec:j8 [none,some 1] (qi (i7 0)) (jU 0) uS (F2 (i7 1) (i8 (i7 0) (jj))) [.ref L,.ref S.length] (S++[.lst (srt.map .int)])=.ok (.ref (S++[O.lst (srt.map .int)]).length) (S++[.lst (srt.map .int)]++[.lst (([(ia:Int),ib,ic,id']:ae).map .int)]):=ec;generalize hS2:S++[O.lst (srt.map .int)]=T at ec hS1 hL1 es;have k1:nO S T:=hS2 ▸ Kp.refl.lay;unfold lZ p_ p7;dsimp[jD,bools,nh,Nat.reduceAdd,Nat.reduceSub,es,ec];have g1:∀o1 o2 o3,i_ (T++[.lst (([(ia:Int),ib,ic,id']:ae).map .int)]++[o1]++[o2]++[o3]) T.length=some (([(ia:Int),ib,ic,id']:ae).map .int):=λo1 o2 o3=>kq (kq (kq jq));refine⟨(decide (([2,3,0,1]:ae)=[(ia:Int),ib,ic,id']) || (decide (([3,1,2,0]:ae)=[(ia:Int),ib,ic,id']) || false)),T++[.lst (([(ia:Int),ib,ic,id']:ae).map .int)]++[.lst [.int 2,.int 3,.int 0,.int 1]]++[.lst [.int 3,.int 1,.int 2,.int 0]]++[.lst [.ref (T++[O.lst (([(ia:Int),ib,ic,id']:ae).map .int)]).length,.ref (T++[O.lst (([(ia:Int),ib,ic,id']:ae).map .int)]++[O.lst [.int 2,.int 3,.int 0,.int 1]]).length]],?_,?_,?_⟩
 rotate_left
 ·exact k1.lay.lay.lay.lay
 ·have e1:=@MF srt hpw;unfold Fo.P;dsimp[Bool.or_false,iQ,iB,List.cons.injEq,and_true];have r1:∀{p q:Nat} {v w:Int},srt[p]?=some v->srt[q]?=some w->v≠w->p<q->v<w:=λ{p q v w} h h' hn hpq=>by
   rcases Int.lt_trichotomy v w with z|z|z
   ·exact z
   ·exact absurd z hn
   ·have:=MF hpw h' h z;lia
  constructor
  ·rintro(⟨h1,h2,h3,h4⟩|⟨h1,h2,h3,h4⟩)
   ·exact .inl ⟨r1 yc yd n6 (),r1 yd ya (eL n3) (),r1 ya yb n1 ()⟩
   ·exact .inr ⟨r1 yd yb (eL n5) (),r1 yb yc n4 (),r1 yc ya (eL n2) ()⟩
  ·rintro(⟨h1,h2,h3⟩|⟨h1,h2,h3⟩)
   ·have:=e1 yc yd h1;have:=e1 yd ya h2;have:=e1 ya yb h3;left;lia
   ·have:=e1 yd yb h1;have:=e1 yb yc h2;have:=e1 yc ya h3;right;lia
 ·have e3:A.seq (T++[.lst (([(ia:Int),ib,ic,id']:ae).map .int)]++[.lst [.int 2,.int 3,.int 0,.int 1]]++[.lst [.int 3,.int 1,.int 2,.int 0]]++[.lst [.ref (T++[O.lst (([(ia:Int),ib,ic,id']:ae).map .int)]).length,.ref (T++[O.lst (([(ia:Int),ib,ic,id']:ae).map .int)]++[O.lst [.int 2,.int 3,.int 0,.int 1]]).length]]) (.ref (T++[O.lst (([(ia:Int),ib,ic,id']:ae).map .int)]++[O.lst [.int 2,.int 3,.int 0,.int 1]]++[O.lst [.int 3,.int 1,.int 2,.int 0]]).length)=some [.ref (T++[O.lst (([(ia:Int),ib,ic,id']:ae).map .int)]).length,.ref (T++[O.lst (([(ia:Int),ib,ic,id']:ae).map .int)]++[O.lst [.int 2,.int 3,.int 0,.int 1]]).length]:=jq;have z1:i_ (T++[O.lst (([(ia:Int),ib,ic,id']:ae).map .int)]++[O.lst [.int 2,.int 3,.int 0,.int 1]]++[O.lst [.int 3,.int 1,.int 2,.int 0]]++[O.lst [.ref (T++[O.lst (([(ia:Int),ib,ic,id']:ae).map .int)]).length,.ref (T++[O.lst (([(ia:Int),ib,ic,id']:ae).map .int)]++[O.lst [.int 2,.int 3,.int 0,.int 1]]).length]]) (T++[O.lst (([(ia:Int),ib,ic,id']:ae).map .int)]).length=some [.int 2,.int 3,.int 0,.int 1]:=kq (kq jq);have z2:i_ (T++[O.lst (([(ia:Int),ib,ic,id']:ae).map .int)]++[O.lst [.int 2,.int 3,.int 0,.int 1]]++[O.lst [.int 3,.int 1,.int 2,.int 0]]++[O.lst [.ref (T++[O.lst (([(ia:Int),ib,ic,id']:ae).map .int)]).length,.ref (T++[O.lst (([(ia:Int),ib,ic,id']:ae).map .int)]++[O.lst [.int 2,.int 3,.int 0,.int 1]]).length]]) (T++[O.lst (([(ia:Int),ib,ic,id']:ae).map .int)]++[O.lst [.int 2,.int 3,.int 0,.int 1]]).length=some [.int 3,.int 1,.int 2,.int 0]:=kq jq;have q1:=CZ (xs:=[2,3,0,1]) z1 (g1 _ _ _);have q2:=CZ (xs:=[3,1,2,0]) z2 (g1 _ _ _);unfold Uc;rw[e3,jx];unfold QC QC QC;rw[q1,q2];dsimp[cC,gW,jx,jD,bools];rfl
end K52
namespace K52
open PySem L2 Am
abbrev Res (S0:jd)(xs:ae)(r:RS)(Nx:ad->jd->Prop):Prop:=(∃τ' S',r=.nx τ' S'/\Nx τ' S')\/(∃a S',r=.rt a S'/\nO S0 S'/\Told xs a)
def Ed{xs:ae}{i:Int}(h0:0<=i)(h1:i<xs.length):mC (xs.map A.int) i=some (.int (At xs (i+1))):=oA (k:=i.toNat) () (by have:=Bw (xs:=xs) (i:=i+1) () ();rw[show(i+1-1).toNat=i.toNat by lia]at this;exact this)
def yf{xs:ae}(nd:xs.Nodup){i j:Int}(h0:0<=i)(hij:i<j)(h1:j<xs.length):At xs (i+1)≠At xs (j+1):=λe=>by
 have a1:=Bw (xs:=xs) (i:=i+1) () ();have a2:=Bw (xs:=xs) (i:=j+1) () ();rw[e]at a1;obtain⟨l1,e1⟩:=aJ.mp a1;obtain⟨l2,e2⟩:=aJ.mp a2;have:=(dG nd).mp (e1.trans e2.symm)
 lia
def RA{xs:ae}{i j k:Int}(nd:xs.Nodup)(hl:xs.length<=1000)(h0:0<=i)(h1:i<j)(h2:j<k)(h3:k<xs.length)(K0:nO S0 S)(nb:NB xs i j k 0) :
  Res S0 xs (nV mK (jU 5) mS [.tup (xs.map .int),.int xs.length,.int i,.int j,.int k,x5] S) (λτ' S'=>(∃x5,τ'=[.tup (xs.map .int),.int xs.length,.int i,.int j,.int k,x5])/\nO S0 S'/\NB xs i j (k+1) 0):=by
 refine nL (lo:=k+1) (hi:=xs.length) (S1:=S) (show mK _ _=_ from pC (S1:=S) (by dsimp[jD,bools]) (by dsimp[jD,bools]) (kj () ()) (kj () ()))
  (λw τ S'=>(∃x5,τ=[.tup (xs.map .int),.int xs.length,.int i,.int j,.int k,x5])/\nO S0 S'/\NB xs i j k (k+1+w)) (λr=>Res S0 xs r _) ⟨⟨_,rfl⟩,K0,λi' j' k' m' hh=>by have:=nb _ _ _ _ hh;have:=hh.2.2.1;lia⟩ ?_ ?_
 ·rintro w τ S1 hw ⟨⟨x5,rfl⟩,K1,nb1⟩;have hm:k+1+(w:Int)<xs.length:=()
  obtain⟨r,S2,e2,k2,i2⟩:=BK (S:=S1++[.lst [.int (At xs (i+1)),.int (At xs (j+1)),.int (At xs (k+1)),.int (At xs (k+1+w+1))]]) (L:=S1.length) jq (yf nd h0 h1 ()) (yf nd h0 () ()) (yf nd h0 () ()) (yf nd () h2 ()) (yf nd () () ()) (yf nd () () ());have K2:nO S0 S2:=K1.lay.trans k2;unfold mS;dsimp[jD,bools,Ed h0 (show i<xs.length by lia),Ed (show 0<=j by lia) (show j<xs.length by lia),Ed (show 0<=k by lia) (show k<xs.length by lia),Ed (show 0<=k+1+(w:Int)by lia) hm,e2];have ei:((i.toNat:Nat):Int)=i:=()
  have ej:((j.toNat:Nat):Int)=j:=()
  have ek:((k.toNat:Nat):Int)=k:=()
  have em:(((k+1+w).toNat:Nat):Int)=k+1+w:=()
  have hit:B9 xs i.toNat j.toNat k.toNat (k+1+w).toNat ↔ Fo.P (At xs (i+1)) (At xs (j+1)) (At xs (k+1)) (At xs (k+1+w+1)):=by
   unfold B9;rw[ei,ej,ek,em];constructor
   ·rintro⟨_,_,_,_,p⟩;exact p
   ·intro p;exact⟨(),(),(),(),p⟩
  cases r with
  | true=>
   right;dsimp[jD,bools,vX (show([_,_,_,_]:ad).length<=16777216 by simp)];refine⟨_,_,rfl,.inr ⟨_,_,rfl,K2,.inr ⟨i.toNat,j.toNat,k.toNat,(k+1+w).toNat,by rw[ei,ej,ek,em],hit.mpr (i2.mp rfl),?_⟩⟩⟩;rw[ei,ej,ek,em];exact nb1
  | false=>
   left;dsimp[jD,bools];refine⟨_,_,rfl,⟨_,rfl⟩,K2,λi' j' k' m' hh=>?_⟩;have:=nb1 _ _ _ _ hh;by_cases he:i=i'/\j=j'/\k=k'/\k+1+(w:Int)=m'
   ·obtain⟨q1,q2,q3,q4⟩:=he;refine absurd (hit.mp ?_) λp=>bq (i2.mpr p);rw[show i.toNat=i' by lia,show j.toNat=j' by lia,show k.toNat=k' by lia,show(k+1+(w:Int)).toNat=m' by lia];exact hh
   ·lia
 ·rintro τ S1 ⟨⟨x5,rfl⟩,K1,nb1⟩;refine .inl ⟨_,_,rfl,⟨_,rfl⟩,K1,λi' j' k' m' hh=>?_⟩;have:=nb1 _ _ _ _ hh;have:=hh.2
  lia
def RJ{xs:ae}{i j:Int}(nd:xs.Nodup)(hl:xs.length<=1000)(h0:0<=i)(h1:i<j)(h2:j<xs.length)(K0:nO S0 S)(nb:NB xs i j 0 0) :
  Res S0 xs (nV mL (jU 4) mU [.tup (xs.map .int),.int xs.length,.int i,.int j,x4,x5] S) (λτ' S'=>(∃x4 x5,τ'=[.tup (xs.map .int),.int xs.length,.int i,.int j,x4,x5])/\nO S0 S'/\NB xs i (j+1) 0 0):=by
 refine nL (lo:=j+1) (hi:=xs.length) (S1:=S) (show mL _ _=_ from pC (S1:=S) (by dsimp[jD,bools]) (by dsimp[jD,bools]) (kj () ()) (kj () ()))
  (λw τ S'=>(∃x4 x5,τ=[.tup (xs.map .int),.int xs.length,.int i,.int j,x4,x5])/\nO S0 S'/\NB xs i j (j+1+w) 0) (λr=>Res S0 xs r _) ⟨⟨_,_,rfl⟩,K0,λi' j' k' m' hh=>by have:=nb _ _ _ _ hh;have:=hh.2;lia⟩ ?_ ?_
 ·rintro w τ S1 hw ⟨⟨x4,x5,rfl⟩,K1,nb1⟩;unfold mU
  rcases RA (x5:=x5) nd hl h0 h1 (show j<j+1+(w:Int)by lia) () K1 nb1 with⟨τ',S',e,⟨y5,rfl⟩,K2,nb2⟩|⟨a,S',e,q⟩
  ·exact .inl ⟨_,_,e,⟨_,_,rfl⟩,K2,λi' j' k' m' hh=>by have:=nb2 _ _ _ _ hh;lia⟩
  ·exact .inr ⟨_,_,e,.inr ⟨_,_,rfl,q⟩⟩
 ·rintro τ S1 ⟨⟨x4,x5,rfl⟩,K1,nb1⟩;refine .inl ⟨_,_,rfl,⟨_,_,rfl⟩,K1,λi' j' k' m' hh=>?_⟩;have:=nb1 _ _ _ _ hh;have:=hh.2
  lia
def EY{xs:ae}{i:Int}(nd:xs.Nodup)(hl:xs.length<=1000)(h0:0<=i)(h1:i<xs.length)(K0:nO S0 S)(nb:NB xs i 0 0 0) :
  Res S0 xs (nV mY (jU 3) mG [.tup (xs.map .int),.int xs.length,.int i,x3,x4,x5] S) (λτ' S'=>(∃x3 x4 x5,τ'=[.tup (xs.map .int),.int xs.length,.int i,x3,x4,x5])/\nO S0 S'/\NB xs (i+1) 0 0 0):=by
 refine nL (lo:=i+1) (hi:=xs.length) (S1:=S) (show mY _ _=_ from pC (S1:=S) (by dsimp[jD,bools]) (by dsimp[jD,bools]) (kj () ()) (kj () ()))
  (λw τ S'=>(∃x3 x4 x5,τ=[.tup (xs.map .int),.int xs.length,.int i,x3,x4,x5])/\nO S0 S'/\NB xs i (i+1+w) 0 0) (λr=>Res S0 xs r _) ⟨⟨_,_,_,rfl⟩,K0,λi' j' k' m' hh=>by have:=nb _ _ _ _ hh;have:=hh.2;have:=hh.1;lia⟩ ?_ ?_
 ·rintro w τ S1 hw ⟨⟨x3,x4,x5,rfl⟩,K1,nb1⟩;unfold mG
  rcases RJ (x4:=x4) (x5:=x5) nd hl h0 (show i<i+1+(w:Int)by lia) () K1 nb1 with⟨τ',S',e,⟨y4,y5,rfl⟩,K2,nb2⟩|⟨a,S',e,q⟩
  ·exact .inl ⟨_,_,e,⟨_,_,_,rfl⟩,K2,λi' j' k' m' hh=>by have:=nb2 _ _ _ _ hh;lia⟩
  ·exact .inr ⟨_,_,e,.inr ⟨_,_,rfl,q⟩⟩
 ·rintro τ S1 ⟨⟨x3,x4,x5,rfl⟩,K1,nb1⟩;refine .inl ⟨_,_,rfl,⟨_,_,_,rfl⟩,K1,λi' j' k' m' hh=>?_⟩;have:=nb1 _ _ _ _ hh;have:=hh.2
  lia
def zS{xs:ae}(nd:xs.Nodup)(hl:xs.length<=1000):∃r S',jT [.tup (xs.map .int)] S=.ok r S'/\nO S S'/\Told xs r:=by
 unfold jT oh nR;dsimp[jD,bools,nh,Nat.reduceAdd,Nat.reduceSub,aK];refine nL (lo:=0) (hi:=xs.length) (S1:=S) (show pF _ _=_ from nS (by dsimp[jD,bools]) (kj () ()))
  (λw τ S'=>(∃x2 x3 x4 x5,τ=[.tup (xs.map .int),.int xs.length,x2,x3,x4,x5])/\nO S S'/\NB xs w 0 0 0) (λr=>∃r' S',RS.end (RS.seq r _)=.ok r' S'/\nO S S'/\Told xs r') ⟨⟨_,_,_,_,rfl⟩,Kp.refl,λi' j' k' m' hh=>by have:=hh.1;lia⟩ ?_ ?_
 ·rintro w τ S1 hw ⟨⟨x2,x3,x4,x5,rfl⟩,K1,nb1⟩;unfold pI
  rcases EY (i:=0+(w:Int)) (x3:=x3) (x4:=x4) (x5:=x5) nd hl () () K1 (λi' j' k' m' hh=>by have:=nb1 _ _ _ _ hh;lia)with⟨τ',S',e,⟨y3,y4,y5,rfl⟩,K2,nb2⟩|⟨a,S',e,q⟩
  ·exact .inl ⟨_,_,e,⟨_,_,_,_,rfl⟩,K2,λi' j' k' m' hh=>by have:=nb2 _ _ _ _ hh;lia⟩
  ·exact .inr ⟨_,_,e,⟨_,_,by dsimp[jD,bools],q⟩⟩
 ·rintro τ S1 ⟨⟨x2,x3,x4,x5,rfl⟩,K1,nb1⟩;dsimp[jD,bools];refine⟨_,_,rfl,K1,.inl ⟨rfl,λi' j' k' m' hh=>?_⟩⟩;have:=nb1 _ _ _ _ hh;have:=hh.2;have:=hh.1
  lia
end K52
namespace K52
open PySem L2 Am
def LO{n:Int}(h:BO S b)(h1:2<=n)(h2:n<=20):∃(xs:ae) (S':jd),mR [.ref b,.int n,.int 7] S=.ok (.tup (xs.map .int)) S'/\xs.Perm (jw 1 (n+1))/\BO S' b:=by
 unfold mR r6 rX;dsimp[jD,bools,nh,Nat.reduceAdd,Nat.reduceSub,wI (wD (show(-1000000:Int)<=1 by decide) ⋯ (show -1000000<=n+1 by lia) () ())];obtain⟨d,S1,e1,d0,d1,hb1,k1⟩:=digit (m:=7+1) h ⋯ ⋯;refine nL (lo:=0) (hi:=d) (S1:=S1) (show sQ _ _=_ from nS (by dsimp[jD,bools,e1]) (kj () ()))
  (λw τ S'=>∃(x4 x5:A) (fs:ae),τ=[.ref b,.int n,.int 7,.tup (fs.map .int),x4,x5]/\fs.Perm (jw 1 (n+1))/\BO S' b) (λr=>∃(xs:ae) (S':jd),RS.end (RS.seq r _)=.ok (.tup (xs.map .int)) S'/\xs.Perm (jw 1 (n+1))/\BO S' b)
  ⟨_,_,jw 1 (n+1),rfl,cZ _,hb1⟩ ?_ ?_
 ·rintro w τ S2 hw ⟨x4,x5,fs,rfl,hp,hb⟩;left;have hlen:(fs.length:Int)=n:=by rw[hp.length_eq,kr];lia
  obtain⟨q,S3,e3,q0,q1,hb3,k3⟩:=digit (m:=n-1) hb () ();have a1:mC (fs.map A.int) (1+q-1)=some (.int fs[q.toNat]):=oA (k:=q.toNat) () (aG ());have a2:mC (fs.map A.int) (1+q)=some (.int fs[q.toNat+1]):=oA (k:=q.toNat+1) () (aG ());have ey:=HK (S:=S3) (xs:=fs) (k:=q.toNat+1) () () ();rw[show((q.toNat+1:Nat):Int)=1+q by lia]at ey;have py:=Wd.vm (l:=fs) (k:=q.toNat+1) () ();unfold r_;dsimp[jD,bools,e3,a1,a2];by_cases hlt:fs[q.toNat]<fs[q.toNat+1]
  ·rw[bg hlt];dsimp[jD,bools,ey];exact⟨_,_,rfl,_,_,_,rfl,py.trans hp,hb3⟩
  ·rw[a_ hlt];dsimp[jD,bools];exact⟨_,_,rfl,_,_,fs,rfl,hp,hb3⟩
 ·rintro τ S2 ⟨x4,x5,fs,rfl,hp,hb⟩;exact⟨fs,S2,by dsimp[jD,bools],hp,hb⟩
end K52
namespace K52
open PySem L2 Am
open Wd (ex led jN)
open Fw (rg)
open Eu (Lo inj)
open Bl
def Uh{a:A}{k:Bool}(h:xw S 12 a b=some k):qg false a b S=.ok (.bl k) S:=by unfold qg;rw[h];rfl
def PJ{l:ae}(h:l.length=m+1):mC (l.map A.int) (-1)=some (.int (l.getD m 0)):=by
 have e:vh (l.map A.int).length (-1)=some m:=by
  unfold vh;rw[aK,h,aM (),aN ()];congr 1
  lia
 unfold mC;rw[e,cC,aT,aI,aG ()];rfl
def Ob(m:Nat)(ks:List (ae)):pT m ks=(Pa.ct m (ks.map Iv.inv)).map λx:Nat=>(x:Int):=by
 unfold pT Pa.ct;rw[bV];refine fL λj _=>?_;show _=(((ks.map Iv.inv).countP λl=>l == j:Nat):Int);rw[iS];rfl
theorem Li{n:Nat}{a:ae}(h1:1<=n)(hn:n<=6)(pa:a.Perm (rg n)):pT (Iv.inv a) ((inj n n).filter (qd n a))=(pT (Iv.inv a) ((inj n n).filter (qd n a))).reverse ↔ Pa.hasB a=false:=by
 rw[<- Pa.VP hn pa (Pa.Rz h1 hn pa) (qd n a) λz pz=>Bq.trans ⟨λh=>h.2,λh=>⟨BN pz,h⟩⟩,Ob,<- gE];exact List.map_inj_right λx y e=>()
def Ly{n:Nat}{a:ae}(pa:a.Perm (rg n))(h1:1<=n)(hn:n<=6):∃(D:Nat) (T:jd),(jF (j7 (eFn pV (i8 (i7 4) jj)) (jU 5))
 (jF (uK (F_ (nG (jc (qg true) (jc (qg false) (i7 5) (Bj xG (i7 5))) (jc (zo false) (eFn jT (i8 (i7 4) jj)) (eC .non)))) (F_ (nG (jc (qg true) (jc lC (i7 5) (eC (.int 0))) (eC (.int 1)))) (nG (jc (qg true) (jc lC (i7 5) (Bj zF (eC (.int 1)))) (eC (.int 1))))))
 (kg (eC (.bl false)))
 m_)
 (uK (AK (nG (jc yq (jz (f1 mD) (i8 (i7 5) jj)) (eC (.int 1)))) (nG (jc (qg true) (jc lC (i7 5) (eC (.int 1))) (FU (eFn kK (i8 (i7 4) jj))))))
 (kg (eC (.bl false)))
 m_))) [x0,x1,x2,x3,jI a,x5] S=.nx [x0,x1,x2,x3,jI a,.ref D] T:=by
 have la:=nv pa;have iv:=Iv.uA a;have i4:a.length * a.length<=36:=by rw[la];exact iZ hn hn
 obtain⟨D,S1,e1,hD,k1,lD⟩:=wK (S:=S) pa h1 hn;have pi:=Li h1 hn pa;have lo:=Ik (n:=n) (a:=a);have cl:=sq (Iv.inv a) ((inj n n).filter (qd n a));have c0:=vg (m:=Iv.inv a) (j:=0) (ks:=(inj n n).filter (qd n a)) (cF _);rw[Pa.sG lo (.refl _) (BN pa) (Fw.yV n) λz pz _ i0=>Cw.zero pz i0]at c0;have cm:=vg (m:=Iv.inv a) (j:=Iv.inv a) (ks:=(inj n n).filter (qd n a)) (aP _);rw[Pa.sG lo pa (Below.refl _) rfl λz pz bz i=>(Eu.mono pa _ z rfl pz bz).2 i]at cm;have hr:i_ (S1++[O.lst ((pT (Iv.inv a) ((inj n n).filter (qd n a))).map A.int).reverse]) S1.length=some ((pT (Iv.inv a) ((inj n n).filter (qd n a))).reverse.map .int):=by rw[gE];exact jq
 have q1:=Uh (RL (kq (o:=O.lst ((pT (Iv.inv a) ((inj n n).filter (qd n a))).map A.int).reverse) hD) hr);obtain⟨r,S2,e2,k2,td⟩:=zS (S:=S1++[O.lst ((pT (Iv.inv a) ((inj n n).filter (qd n a))).map A.int).reverse]) (xs:=a) (pa.nodup_iff.mpr (p8 _ _)) ();have k12:nO S1 S2:=(Kp.refl.lay).trans k2;have hD2:=k12.lst _ _ (λz=>z) hD;obtain⟨W,w,S3,e3,hW,hR,hL,k3,lW⟩:=LH (S:=S2) pa ();have x0':mC ((pT (Iv.inv a) ((inj n n).filter (qd n a))).map A.int) 0=some (.int 1):=by
  exact(Mi (k:=0) (i:=0) rfl ()).trans (by rw[c0];rfl)
 have xm:mC ((pT (Iv.inv a) ((inj n n).filter (qd n a))).map A.int) (-1)=some (.int 1):=by
  rw[PJ cl,cm];rfl
 have hb:(decide (pT (Iv.inv a) ((inj n n).filter (qd n a))=(pT (Iv.inv a) ((inj n n).filter (qd n a))).reverse)=true/\r=.non)\/(decide (pT (Iv.inv a) ((inj n n).filter (qd n a))=(pT (Iv.inv a) ((inj n n).filter (qd n a))).reverse)=false/\∃us,r=.tup us):=by
  have hit:∀i j k m,B9 a i j k m ↔ (i<j/\j<k/\k<m/\m<a.length/\Fo.P (a.getD i 0) (a.getD j 0) (a.getD k 0) (a.getD m 0)):=λi j k m=>by
   unfold B9 At;rw[show((i:Int)+1-1).toNat=i by lia,show((j:Int)+1-1).toNat=j by lia,show((k:Int)+1-1).toNat=k by lia,show((m:Int)+1-1).toNat=m by lia]
  rcases td with⟨er,hno⟩|⟨i,j,k,m,er,hh,_⟩
  ·left;refine⟨bg (pi.mpr (iC.mpr λz=>?_)),er⟩;obtain⟨i,j,k,m,h⟩:=Pa.C2.mp z;exact hno i j k m ((hit i j k m).mpr h)
  ·right;refine⟨a_ λz=>?_,_,er⟩;have:=pi.mp z;rw[Pa.C2.mpr ⟨i,j,k,m,(hit i j k m).mp hh⟩]at this
   cases this
 have on:=Pa.ones pa hR hL lo;have ls:QZ (.ref W) S3=.ok (.int ((w.map λk:Nat=>(k:Int)).foldl PyProof.Rows.step_dedup []).length) S3:=by
  show opt (i_ S3 W) _=_;rw[hW,jx,show w.map kI=(w.map λk:Nat=>(k:Int)).map A.int by rw[bV];rfl,ints_map,jx];have rl:=He.xg hR;rw[hL,Fw.yV]at rl;exact Lw (by rw[aK];lia)
 have k13:=k12.trans k3;have hD3:=k13.lst _ _ (λz=>z) hD;have tl:(nG (jc (qg true) (jc lC (i7 5) (eC (.int 1))) (FU (eFn kK (i8 (i7 4) jj))))) [x0,x1,x2,x3,jI a,.ref D] S2=.ok false S3\/Iv.inv a=0:=by
  by_cases z:Iv.inv a=0
  ·exact .inr z
  ·left;have c1:=vg (m:=Iv.inv a) (j:=1) (ks:=(inj n n).filter (qd n a)) ();rw[on]at c1;have x1':mC ((pT (Iv.inv a) ((inj n n).filter (qd n a))).map A.int) 1=some (.int ((w.map λk:Nat=>(k:Int)).foldl PyProof.Rows.step_dedup []).length):=by
    exact(Mi (k:=1) (i:=1) rfl ()).trans (by rw[c1])
   unfold FU;dsimp[jD,bools,hD2,x1',e3,ls];simp
 have n1:∀T:jd,qg true (.int 1) (.int 1) T=.ok (.bl false) T:=λT=>yY (k:=true) rfl;have lc:((pT (Iv.inv a) ((inj n n).filter (qd n a))).map A.int).length=Iv.inv a+1:=by rw[aK];exact cl
 have hD1:i_ (S1++[O.lst ((pT (Iv.inv a) ((inj n n).filter (qd n a))).map A.int).reverse]) D=some ((pT (Iv.inv a) ((inj n n).filter (qd n a))).map .int):=kq hD;generalize pT (Iv.inv a) ((inj n n).filter (qd n a))=C at *
 have e4:(uK (F_ (nG (jc (qg true) (jc (qg false) (i7 5) (Bj xG (i7 5))) (jc (zo false) (eFn jT (i8 (i7 4) jj)) (eC .non)))) (F_ (nG (jc (qg true) (jc lC (i7 5) (eC (.int 0))) (eC (.int 1)))) (nG (jc (qg true) (jc lC (i7 5) (Bj zF (eC (.int 1)))) (eC (.int 1))))))
    (kg (eC (.bl false)))
    m_) [x0,x1,x2,x3,jI a,.ref D] S1=.nx [x0,x1,x2,x3,jI a,.ref D] S2:=by
  rcases hb with⟨b1,rfl⟩|⟨b1,us,rfl⟩
  ·rw[b1]at q1;dsimp[jD,bools,hD,q1,e2,show zo false .non .non S2=.ok (.bl true) S2 from rfl,show qg true (.bl true) (.bl true) S2=.ok (.bl false) S2 from yY (k:=true) rfl,hD2,x0',n1,xm]
  ·rw[b1]at q1;dsimp[jD,bools,hD,q1,e2,show zo false (.tup us) .non S2=.ok (.bl false) S2 from rfl,show qg true (.bl false) (.bl false) S2=.ok (.bl false) S2 from yY (k:=true) rfl,hD2,x0',n1,xm]
 dsimp[jD,bools]at e4
 rcases tl with tl|tl
 ·by_cases z:0<Iv.inv a
  ·refine⟨D,S3,?_⟩;dsimp[jD,bools,e1];rw[e4];dsimp[jD,bools,hD2,lc,bg (show(1:Int)<((Iv.inv a+1:Nat):Int)by lia)];dsimp[jD,bools,hD2]at tl;rw[tl];rfl
  ·refine⟨D,S2,?_⟩;dsimp[jD,bools,e1];rw[e4];dsimp[jD,bools,hD2,lc,a_ (show ¬(1:Int)<((Iv.inv a+1:Nat):Int)by lia)]
 ·refine⟨D,S2,?_⟩;dsimp[jD,bools,e1];rw[e4];dsimp[jD,bools,hD2,lc,a_ (show ¬(1:Int)<((Iv.inv a+1:Nat):Int)by lia)]
def Uj{d:Int}(h0:0<=d)(h1:d<8):∃n:Nat,mC [A.int 5,.int 4,.int 5,.int 3,.int 2,.int 1,.int 5,.int 4] d=some (.int n)/\1<=n/\n<=6:=by
 have:d=0\/d=1\/d=2\/d=3\/d=4\/d=5\/d=6\/d=7:=()
 rcases this with rfl|rfl|rfl|rfl|rfl|rfl|rfl|rfl
 ·exact⟨5,rfl,by decide,by decide⟩
 ·exact⟨4,rfl,by decide,by decide⟩
 ·exact⟨5,rfl,by decide,by decide⟩
 ·exact⟨3,rfl,by decide,by decide⟩
 ·exact⟨2,rfl,by decide,by decide⟩
 ·exact⟨1,rfl,by decide,by decide⟩
 ·exact⟨5,rfl,by decide,by decide⟩
 ·exact⟨4,rfl,by decide,by decide⟩
end K52
namespace K52
open PySem L2 Am
open Fw (rg)
def Qz(ns:ae)(hl:ns.length<=63):∃S',yg [.frz (ns.map .int)] []=.ok (.bl true) S':=by
 unfold yg Jm Ja;dsimp[jD,bools,nh,Nat.reduceAdd,Nat.reduceSub];refine nL (lo:=0) (hi:=if (if (ns.length:Int)>4 then 4 else(ns.length:Int))>2 then(if (ns.length:Int)>4 then 4 else(ns.length:Int))else 2) (S1:=[]) (show CQ _ _=_ from nS (by dsimp[jD,bools,aK]) (kj (by split<;>split<;>lia) (by split<;>split<;>lia)))
  (λi τ T=>∃x1 x2 x3 x4 x5:A,τ=[.frz (ns.map .int),x1,x2,x3,x4,x5])
  (λr=>∃S',RS.end (RS.seq r _)=.ok (.bl true) S') ⟨_,_,_,_,_,rfl⟩ ?_ ?_
 ·rintro i τ T hi ⟨x1,x2,x3,x4,x5,rfl⟩;left;have hi4:(i:Int)<4:=by split at hi<;>split at hi<;>lia
  obtain⟨c0,ec0⟩:=LJ (S:=T) (ns:=ns) (k:=0+(i:Int)) ();obtain⟨S1,e1,b1,kp1⟩:=L_ (S:=T) (c:=c0) (k:=1+(0+(i:Int))) () ();have b1l:T.length<S1.length:=by obtain⟨_,_,e,_⟩:=b1;exact n9 e
  have n1:newL [.int 5,.int 4,.int 5,.int 3,.int 2,.int 1,.int 5,.int 4] S1=.ok (.ref S1.length) (S1++[O.lst [.int 5,.int 4,.int 5,.int 3,.int 2,.int 1,.int 5,.int 4]]):=jQ (show 8<=16777216 by decide);have k1:nO S1 (S1++[O.lst [.int 5,.int 4,.int 5,.int 3,.int 2,.int 1,.int 5,.int 4]]):=Kp.refl.lay;obtain⟨q,S2,e2,q0,q1,b2,kp2⟩:=digit (m:=8) (b1.kp k1 λz=>z) ⋯ ⋯;have g2:i_ S2 S1.length=some [.int 5,.int 4,.int 5,.int 3,.int 2,.int 1,.int 5,.int 4]:=kp2.lst _ _ (by show ¬S1.length=T.length;lia) jq;obtain⟨m,em,m0,m1⟩:=Uj q0 q1;obtain⟨d,S3,e3,d0,d1,b3,kp3⟩:=digit (m:=4) b2 ⋯ ⋯;obtain⟨n,hn,n0,n6⟩:∃n:Nat,(n:Int)=(if d=3 then 6 else(m:Int))/\1<=n/\n<=6:=by
   by_cases c:d=3
   ·exact⟨6,by rw[aN c];rfl,by decide,by decide⟩
   ·exact⟨m,by rw[aM c],m0,m1⟩
  obtain⟨a,S4,e4,pa,b4,kp4⟩:=Jq (n:=(n:Int)) b3 () ();have fin:∀(o:ae) (S5:jd),o.Perm (rg n)->∀y0 y1 y2 y3 y5:A,∃(D:Nat) (T':jd),_:=λo S5 po y0 y1 y2 y3 y5=>Ly (S:=S5) (x0:=y0) (x1:=y1) (x2:=y2) (x3:=y3) (x5:=y5) po n0 n6;dsimp[jD,bools]at fin;obtain⟨d2,S5,e5,w0,w1,b5,kp5⟩:=digit (m:=4) b4 ⋯ ⋯;unfold EO;have go:∀nn:A,nn=.int n->∃τ' S',RS.seq (RS.of (Tc (lO [.ref T.length,nn] S3)) (O9 (jU 4) [.frz (ns.map .int),.int (0+(i:Int)),.ref T.length,nn,x4,x5])) (jF (uK (AK (nG (jc yq (i7 3) (eC (.int 1)))) (nG (jc (qg false) (eFn jy (i8 (i7 2) (i8 (eC (.int 4)) jj))) (eC (.int 3))))) (j7 (eFn mR (i8 (i7 2) (i8 (i7 3) (i8 (eC (.int 7)) jj)))) (jU 4)) m_) (jF (j7 (eFn pV (i8 (i7 4) jj)) (jU 5))
     (jF (uK (F_ (nG (jc (qg true) (jc (qg false) (i7 5) (Bj xG (i7 5))) (jc (zo false) (eFn jT (i8 (i7 4) jj)) (eC .non)))) (F_ (nG (jc (qg true) (jc lC (i7 5) (eC (.int 0))) (eC (.int 1)))) (nG (jc (qg true) (jc lC (i7 5) (Bj zF (eC (.int 1)))) (eC (.int 1)))))) (kg (eC (.bl false))) m_)
     (uK (AK (nG (jc yq (jz (f1 mD) (i8 (i7 5) jj)) (eC (.int 1)))) (nG (jc (qg true) (jc lC (i7 5) (eC (.int 1))) (FU (eFn kK (i8 (i7 4) jj)))))) (kg (eC (.bl false))) m_))))=.nx τ' S'/\∃x1 x2 x3 x4 x5:A,τ'=[.frz (ns.map .int),x1,x2,x3,x4,x5]:=by
   rintro nn rfl;dsimp[jD,bools,e4];by_cases c1:1<n
   ·dsimp[jD,bools,bg (show(1:Int)<n by lia),e5];by_cases c2:d2=3
    ·obtain⟨o,S6,e6,po,b6⟩:=LO b5 (show(2:Int)<=n by lia) ();obtain⟨D,T',ef⟩:=fin o S6 po (.frz (ns.map .int)) (.int (0+(i:Int))) (.ref T.length) (.int n) x5;dsimp[jD,bools,show(d2 == 3)=true by simpa using c2,e6];rw[ef];exact⟨_,_,rfl,_,_,_,_,_,rfl⟩
    ·obtain⟨D,T',ef⟩:=fin a S5 pa (.frz (ns.map .int)) (.int (0+(i:Int))) (.ref T.length) (.int n) x5;dsimp[jD,bools,show(d2 == 3)=false by simpa using c2];rw[ef];exact⟨_,_,rfl,_,_,_,_,_,rfl⟩
   ·obtain⟨D,T',ef⟩:=fin a S4 pa (.frz (ns.map .int)) (.int (0+(i:Int))) (.ref T.length) (.int n) x5;dsimp[jD,bools,a_ (show ¬(1:Int)<n by lia)];rw[ef];exact⟨_,_,rfl,_,_,_,_,_,rfl⟩
  dsimp[jD,bools,ec0,e1,n1,e2,g2,em,e3];by_cases c:d=3
  ·rw[aN c]at hn;have g:=go (.int 6) (by rw[hn]);dsimp[jD,bools,show(d == 3)=true by simpa using c];exact g
  ·rw[aM c]at hn;have g:=go (.int m) (by rw[hn]);dsimp[jD,bools,show(d == 3)=false by simpa using c];exact g
 ·rintro τ T ⟨x1,x2,x3,x4,x5,rfl⟩;dsimp[jD,bools];exact⟨_,rfl⟩
end K52
namespace K52
open PySem L2 Am
def all_mk{l:PySem.W.OpenLaw}{w:ah}{K:au}{h:aq}{mg:Str->ba}{fa:ak}(X:K.In h)(G:h.Ns mainGlobals mg)(hfa:mg "law" = some (.ref fa))
  (a1:Df K "plain_order" o_)
  (a2:Df K "need_pair" qI)
  (a3:Df K "exchanged_places" lJ)
  (a4:Df K "place_pairs" oH)
  (a5:Df K "wrong_pairs" oX)
  (a6:Df K "length" wu)
  (a7:Df K "first_above_nought" kN)
  (a8:Df K "bar" JU)
  (a9:Df K "is_below" rW)
  (a10:Df K "need_bounds" oU)
  (a11:Df K "is_step" tK)
  (a12:Df K "steps" yP)
  (a13:Df K "steps_above" o6)
  (a14:Df K "between" uw)
  (a15:Df K "count" za)
  (a16:Df K "_law_cell" rH)
  (a17:Df K "_law_bag" um)
  (a18:Df K "_law_mixed" qE)
  (a19:Df K "_law_digit" qo)
  (a20:Df K "_law_order" qz)
  (a21:Df K "_law_exchanged" nA)
  (a22:Df K "_law_some" rK)
  (a23:Df K "_law_word" rR)
  (a24:Df K "_law_stands" pZ)
  (a25:Df K "_law_has_four" nW)
  (a26:Df K "law" Jk)
  (WW:PySem.W.nsIn K mainGlobals "tuple" = some none)
  (WX:PySem.W.nsIn K mainGlobals "range" = some none)
  (WY:PySem.W.nsIn K mainGlobals "len" = some none)
  (WZ:PySem.W.nsIn K mainGlobals "list" = some none)
  (W0:PySem.W.nsIn K mainGlobals "max" = some none)
  (W2:PySem.W.nsIn K mainGlobals "min" = some none)
  (W3:PySem.W.nsIn K mainGlobals "any" = some none)
  (W4:PySem.W.nsIn K mainGlobals "sorted" = some none)
  (W5:PySem.W.nsIn K mainGlobals "abs" = some none)
  (W6:PySem.W.nsIn K mainGlobals "set" = some none)
  {WS:Tok} (W7:PySem.W.nsIn K mainGlobals "MOST_CLIMBED_PAIRS" = some (some (.int 4 WS)))
  {WT:Tok} (W8:PySem.W.nsIn K mainGlobals "MOST_CLIMBED_THINGS" = some (some (.int 9 WT)))
  {WU:Tok} (W9:PySem.W.nsIn K mainGlobals "MOST_THINGS_chains" = some (some (.int 6 WU)))
  {WV:Tok} (W_:PySem.W.nsIn K mainGlobals "MOST_THINGS_counts" = some (some (.int 6 WV)))
  : ∃fd:FuncData,(∀(s:aC) (v:af),BindsTo s fd ⟨[v],[]⟩ [("_law_script",v)])/\∀base:aq,K.In base->base.Ns mainGlobals mg->FnOk l.prog w K mg base qk 7 fa fd ["_law_script"] (rf K 1 yg):=by
 obtain⟨f,fd,a,F⟩:=a26;have e:=hfa.symm.trans (fQ X G a)
 cases e
 have We:=cI X G WW;have Wc:=cI X G WX;have Wb:=cI X G WY;have Wj:=cI X G WZ;have Wg:=cI X G W0;have Wm:=cI X G W2;have Wu:=cI X G W3;have Wh:=cI X G W4;have WH:=cI X G W5;have WJ:=cI X G W6;have Wy:∃t,mg "MOST_CLIMBED_PAIRS" = some (.int 4 t):=⟨WS,fQ X G W7⟩;have Wz:∃t,mg "MOST_CLIMBED_THINGS" = some (.int 9 t):=⟨WT,fQ X G W8⟩;have WA:∃t,mg "MOST_THINGS_chains" = some (.int 6 t):=⟨WU,fQ X G W9⟩;have WD:∃t,mg "MOST_THINGS_counts" = some (.int 6 t):=⟨WV,fQ X G W_⟩;refine⟨fd,λs v=>(by obtain⟨_,_,_,_,_,_,_,_,_,rfl,_,_⟩:=F.ex;exact .of_eq rfl),λbase _ _=>?_⟩;have E:En l.prog w K mg base:=⟨h,X,G⟩;have WG:=a1.kA E (λF=>wB F We Wc) (HB λ_ _ _ _ _ _ _=>rfl);have Wl:=a2.kA E (λF=>zx F Wb) (KG λ_ _ _ _ _ _ _ _=>rfl);have Ww:=a3.kA E (λF=>qZ F Wj We) (US λ_ _ _ _ _ _ _ _ _=>rfl);have Wk:=a4.kA E (λF=>w4 F Wc) (HB λ_ _ _ _ _ _ _=>rfl);have Wr:=a5.kA E (λF=>wm F Wb Wk) (HB λ_ _ _ _ _ _ _=>rfl);have Wi:=a6.kA E (λF=>F6 F Wb Wr) (HB λ_ _ _ _ _ _ _=>rfl);have Ws:=a7.kA E (λF=>qj F) (HB λ_ _ _ _ _ _ _=>rfl);have Wt:=a8.kA E (λF=>PU F Wb Wc Wg Wl Ws) (KG λ_ _ _ _ _ _ _ _=>rfl);have Wo:=a9.kA E (λF=>Bh F Wt) (KG λ_ _ _ _ _ _ _ _=>rfl);have WB:=a10.kA E (λF=>wz F Wb Wi) (V2 λ_ _ _ _ _ _ _ _ _ _ _=>rfl);have Wv:=a11.kA E (λF=>BU F Wm Wg Wu) (US λ_ _ _ _ _ _ _ _ _=>rfl);have Wx:=a12.kA E (λF=>G1 F Wh Wv Ww) (KG λ_ _ _ _ _ _ _ _=>rfl);have WC:=a13.kA E (λF=>wF F Wb Wx Wk) (HB λ_ _ _ _ _ _ _=>rfl);have WE:=a14.kA E (λF=>Cj F Wh Wy Wz WA Wl WB Wo WC) (KG λ_ _ _ _ _ _ _ _=>rfl);have WO:=a15.kA E (λF=>Ju F Wb WD Wi WE WG) (HB λ_ _ _ _ _ _ _=>rfl);have WL:=a16.kA E (λF=>zX F Wb) (KG λ_ _ _ _ _ _ _ _=>rfl);have WK:=a17.kA E (λF=>Bs F WH) (KG λ_ _ _ _ _ _ _ _=>rfl);have Wq:=a18.kA E (λF=>yD F) (HB λ_ _ _ _ _ _ _=>rfl);have Wf:=a19.kA E (λF=>zb F Wc Wq) (KG λ_ _ _ _ _ _ _ _=>rfl);have WM:=a20.kA E (λF=>zq F Wj Wc Wb We Wf) (KG λ_ _ _ _ _ _ _ _=>rfl);have Wn:=a21.kA E (λF=>tR F) (KG λ_ _ _ _ _ _ _ _=>rfl);have WN:=a22.kA E (λF=>Aj F We Wc Wf Wn) (US λ_ _ _ _ _ _ _ _ _=>rfl);have WR:=a23.kA E (λF=>Ak F Wc Wb Wn) (HB λ_ _ _ _ _ _ _=>rfl);have WI:=a24.kA E (λF=>xB F Wh) (HB λ_ _ _ _ _ _ _=>rfl);have WQ:=a25.kA E (λF=>uU F Wb Wc WI) (HB λ_ _ _ _ _ _ _=>rfl);exact NN F Wc Wg Wm Wb WJ WK WL Wf WM WN WO WQ WR
def walk{l:PySem.W.OpenLaw}{q:aj}{XP:(Str->ba)->aq->Prop}{YP:ah->aq->Prop}{d:DefRec}{K:Params->au}(hn:l.most=some 63)(hdf:d.params.defaults=[])
  (hY:∀(w:ah) (h:aq),YP w h->(K w.params).In h)
  (F:∀(w:ah) (mg:Str->ba) (fa:ak) (h:aq),(K w.params).In h->h.Ns mainGlobals mg->mg d.name=some (.ref fa) ->
   ∃fd:FuncData,(∀(s:aC) (u:af),BindsTo s fd ⟨[u],[]⟩ [("_law_script",u)])/\∀base:aq,(K w.params).In base->base.Ns mainGlobals mg->FnOk l.prog w (K w.params) mg base qk 7 fa fd ["_law_script"] (rf (K w.params) 1 yg)) :
  PySem.W.WalkO q loose XP YP l.row.toRowW d [] (λf vs=>PySem.call f vs):=
 L2.L4 (n:=63) (k:=7) (x := "_law_script") (CX:=λ_=>qk) (sp:=λw=>rf (K w.params) 1 yg) hn ⋯ hdf ⟨rfl,by decide,by decide⟩ hY F (λ_ H a ns hl hO hS=>Fg hO hS (Qz ns hl)) λ_ _ _ _ _ z=>z
end K52
open PySem PySem.W PyProof.Rows
namespace PySem.W.Fast
def tw3125308286019539806:=Nat
def tw9324065928065716235:=Nat
def tw16806918422022328001:=Nat
def tw8624929886266351435:=Nat
def tw10327179947165693126:=Nat
def tw12321704844758639156:=Nat
def tw11830499388020418220:=Nat
def tw9702058117409191041:=Nat
def tw6941050883745360866:=Nat
def tw3733857944566157720:=Nat
def tw4602090508619553686:=Nat
def tw12789070599442096059:=Nat
def tw17793847994230890512:=Nat
def tw3381224102585123365:=Nat
def tw16543716433720048897:=Nat
def tw14330762666391779778:=Nat
def tw2971976712314152680:=Nat
def tw6512591985758992226:=Nat
def tw8739595530815666054:=Nat
def tw18233164158466717704:=Nat
def tw6791754469892417025:=Nat
def tw5714463856429787694:=Nat
def tw11151994869361100090:=Nat
def tw15669564475813469911:=Nat
def tw3076521399437868433:=Nat
def tw13052676759239597321:=Nat
def tw15233372244588641283:=Nat
def tw14943767071218057492:=Nat
def tw9789241352523510191:=Nat
def tw7681113586821727830:=Nat
def tw7760160761428522913:=Nat
def tw14634587054338949330:=Nat
def tw6671960688407413711:=Nat
def tw11847674671442551672:=Nat
def tw5351912754494155230:=Nat
def tw14537441744405725652:=Nat
def tw10770180248615421202:=Nat
def tw18383706015091228860:=Nat
def tw6647621743893145311:=Nat
def tw13128004288962794759:=Nat
def tw7953489088113587846:=Nat
def tw10931372474265066280:=Nat
def tw16633578560271488616:=Nat
def tw596687116700528289:=Nat
def tw12114643364464983422:=Nat
def tw15558351152417347057:=Nat
def tw222675963087826757:=Nat
def tw15691252348987697639:=Nat
def tw4935378927380677388:=Nat
def tw4803717808355967854:=Nat
def tw12429525528323484126:=Nat
def tw3270239853190340937:=Nat
def tw2267496426348022032:=Nat
def tw11316616519752601252:=Nat
def tw931391302144002024:=Nat
def tw17334258440515665026:=Nat
def tw15743847002006061596:=Nat
def tw13348376896331921557:=Nat
def tw12798402555815877926:=Nat
def tw12840294963267885689:=Nat
def tw16404994316657944452:=Nat
def tw4082025261809275879:=Nat
def tw12982834132879443842:=Nat
def tw7622693731562999696:=Nat
def tw2884271154119421651:=Nat
def tw5086579639438419607:=Nat
def tw10050471162778942159:=Nat
def tw1387077475623152594:=Nat
def tw4251249750666787803:=Nat
def tw5149904200835356195:=Nat
def tw16676417815116082483:=Nat
def tw1181054507402210893:=Nat
def tw9928866376571687223:=Nat
def tw11512472268363302101:=Nat
def tw15276400059349677489:=Nat
def tw752393341328391516:=Nat
def tw2940573817950093721:=Nat
def tw13208228744835461519:=Nat
def tw14041427235158009515:=Nat
def tw16183749611975169678:=Nat
def tw13927971091000244187:=Nat
def tw11263024844678266986:=Nat
def tw3868321190928262968:=Nat
def tw13494074305596196474:=Nat
def tw4426698573508814678:=Nat
def tw12572398813606773251:=Nat
def tw10266988839948430592:=Nat
def tw6759156127705725293:=Nat
def tw10463031468893196627:=Nat
def tw5726622486652861870:=Nat
def tw5838933270607314648:=Nat
def tw16947066947626241814:=Nat
def tw12774264183285697782:=Nat
def tw14462187413447857538:=Nat
def tw2090593851320036863:=Nat
def tw17694014503237304551:=Nat
def tw15743266454507379627:=Nat
def tw4676768412045071574:=Nat
def tw13880307787504907934:=Nat
def tw7782135877989652258:=Nat
def tw5402759781261314210:=Nat
def tw5190503816212993652:=Nat
def tw17413729639549912437:=Nat
def tw7901231466137942659:=Nat
def tw14383102107913498376:=Nat
def tw16192029493231272708:=Nat
def tw8416752186435354210:=Nat
def tw10317919162967558169:=Nat
def tw14484025097914034804:=Nat
def tw1590030184701757975:=Nat
def tw8144685363399127451:=Nat
def tw581906011060104073:=Nat
def tw14719650372281584457:=Nat
def tw15342451818658006670:=Nat
def tw14776854322228959651:=Nat
def tw5235431887190146640:=Nat
def tw15382824726847984172:=Nat
def tw842961724424448951:=Nat
def tw13896160032342466619:=Nat
def tw11027111347550447665:=Nat
def tw11940463296324600280:=Nat
def tw5566538755555650934:=Nat
def tw306945875321855012:=Nat
def tw1413060406488750142:=Nat
def tw1477135166518788813:=Nat
def tw4963021647328333632:=Nat
def tw15035476178854031517:=Nat
def tw6047071328287875905:=Nat
def tw8705977224898625940:=Nat
def tw2483550933639338070:=Nat
def tw7905364464724053707:=Nat
def tw18114267306309967237:=Nat
def tw16722462654648898652:=Nat
def tw8962550444083531803:=Nat
def tw11914620763768779275:=Nat
def tw464620090235456849:=Nat
def tw7951568335058863630:=Nat
def tw13612233790281234553:=Nat
def tw7591551509665955501:=Nat
def tw5403402648364763642:=Nat
end PySem.W.Fast
set_option maxRecDepth 100000 in
set_option maxHeartbeats 0 in
theorem PySem.Challenge.cw_undercells_k52_counts_even_where_plain_holds : PySem.Challenge.rw_undercells_k52_counts_even_where_plain.Holds := by
 w_on;o_law;k_head;(case hw=>w_witness2)
 k_fill
 refine K52.walk (l:=PySem.Challenge.rw_undercells_k52_counts_even_where_plain) rfl rfl (fun w h Y=>PySem.W.kIn_of Y) ?F
 case F=>
  intro w mg fa h KX G hmg;refine' K52.all_mk KX G hmg (.of ?_ ?_ ?_ ?_) (.of ?_ ?_ ?_ ?_) (.of ?_ ?_ ?_ ?_) (.of ?_ ?_ ?_ ?_) (.of ?_ ?_ ?_ ?_) (.of ?_ ?_ ?_ ?_) (.of ?_ ?_ ?_ ?_) (.of ?_ ?_ ?_ ?_) (.of ?_ ?_ ?_ ?_) (.of ?_ ?_ ?_ ?_) (.of ?_ ?_ ?_ ?_) (.of ?_ ?_ ?_ ?_) (.of ?_ ?_ ?_ ?_) (.of ?_ ?_ ?_ ?_) (.of ?_ ?_ ?_ ?_) (.of ?_ ?_ ?_ ?_) (.of ?_ ?_ ?_ ?_) (.of ?_ ?_ ?_ ?_) (.of ?_ ?_ ?_ ?_) (.of ?_ ?_ ?_ ?_) (.of ?_ ?_ ?_ ?_) (.of ?_ ?_ ?_ ?_) (.of ?_ ?_ ?_ ?_) (.of ?_ ?_ ?_ ?_) (.of ?_ ?_ ?_ ?_) (.of ?_ ?_ ?_ ?_) ?_ ?_ ?_ ?_ ?_ ?_ ?_ ?_ ?_ ?_ ?_ ?_ ?_ ?_
  any_goals first|k_is|kernel_rfl
