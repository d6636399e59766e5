import PyProof.Rows.All
import Wide.All
import OpenK.AllK
import Wide.FinOn
import Lean
import PyProof.EqAt
import PyProof.EqKinds
import PyProof.TupleCall
import PySem.Challenge.RW_undercells_k63_whole_longest_picks
set_option autoImplicit true
set_option relaxedAutoImplicit true
set_option Elab.async false
set_option linter.all false
set_option maxRecDepth 100000
set_option compiler.extract_closed false
set_option maxHeartbeats 4000000
local macro_rules|`($a<|>$b)=>`(autoParam $a $b)
local macro_rules|`(command|abbrev $n:declId $s:optDeclSig $v:declVal)=>`(command|noncomputable def $n:declId $s:optDeclSig $v:declVal)|`(command|meta abbrev $n:declId $s:optDeclSig $v:declVal)=>`(command|@[reducible]noncomputable def $n:declId $s:optDeclSig $v:declVal)
local macro_rules|`(∅)=>`(by decide +kernel)
local macro_rules|`(⋯)=>`(by decide)
local macro_rules|`(tactic|dsimp[$l,*])=>`(tactic|simp only[$l,*])|`(tactic|dsimp[$l,*]$o:location)=>`(tactic|simp only[$l,*]$o:location)
local macro_rules(kind:=Lean.Parser.Term.structInst)|`({})=>`({cls:=.type "list",data:=.seq ([]:List PySem.Value).toArray})
set_option hygiene false
local macro_rules|`(tactic|room)=>`(tactic|intro X hP hw hK hc i pins s σ H E I hf st hg)
local macro_rules|`(tactic|z_go)=>`(tactic|obtain⟨ρ,S,τ,R,r,h⟩:=h9)
local macro_rules|`(tactic|x_go)=>`(tactic|obtain⟨ρ,S,a,b,R,va,vb,h⟩:=h9)
local macro_rules|`(tactic|w_up)=>`(tactic|intro pins s σ H Q I h)
local macro_rules|`(tactic|fin2)=>`(tactic|obtain⟨f0,f1,f2,f3,f4,f5⟩:=hf it (by simp))
local macro_rules|`(tactic|k_ne)=>`(tactic|have hfree:∀y∈scope.names,y.2=.free->∃c,X.env.cells.lookup y.1=some c:=λy hy e=>I.ok.has _ (S.fr y hy e))
local macro_rules|`(tactic|kt_k)=>`(tactic|intro pins s σ H xs us Q I r h)
local macro_rules|`(tactic|kd_p)=>`(tactic|refine I3.yZ (ch:=fp) I6.os ⟨λb o e n hb hx=>?_,λb o e n hb hx=>?_,λb o e n hx=>?_,λb o e hx=>?_,u6.tups,u6.frzs,u6.tbls⟩ ?_ I6.bare ?_)
local macro_rules|`(tactic|gn_on)=>`(tactic|obtain⟨xs,hn,h⟩:=iK h)
local macro_rules|`(tactic|gp_on)=>`(tactic|refine⟨ρ3,S3,τ3,x,τ4,S4,R4,r3.ext e4,v4,hg4,λρ5 H5 σ5 e5 R5 r5=>⟨ρ5,S4,τ4,b,S5,R5,r5,ht5,λρ6 H6 e6 R6=>?_⟩⟩)
local macro_rules|`(tactic|kj_on)=>`(tactic|refine⟨m',hm,i+1,σ8,H10,I10.ku,T.keep _ _ _ st7 λb hb o e=>(I10.pin (b,o) (aT _ (aT _ (jk hb e)))).1,λb hb=>?_,w10⟩)
local macro_rules|`(tactic|kcf_m)=>`(tactic|obtain⟨w,rfl,ρ,S,x,R,hv,h⟩:=Mw h0)
local macro_rules|`(tactic|kcj_m)=>`(tactic|intro pins s σ H x y v u Q I rx ry h)
local macro_rules|`(tactic|kpc_g)=>`(tactic|refine aJ (jz h6 λ_ s7 ⟨x,H7,I7,r7,y7,st7,fr7⟩=>?_))
local macro_rules|`(tactic|kpf_c)=>`(tactic|refine⟨hn b hb,(ok.exf b hb).1,ok.exfs b hb,.inl hb,λx c e=>(ok.exf b hb).2 x c e,λp hp=>nomatch hp⟩)
local macro_rules|`(tactic|ksr_p)=>`(tactic|intro pins s σ H D I h)
local macro_rules|`(tactic|kst_p)=>`(tactic|obtain⟨u,rfl,rx⟩:=vals1 r)
local macro_rules|`(tactic|kln_w)=>`(tactic|refine aJ (rF (hg _ _ _ fp _ s7 σ5 H7 x u _ I7' r7 (step x H7 y7)) λ_ s8 ⟨σ8,H8,I8,q8⟩=>?_))
local macro_rules|`(tactic|kl_no)=>`(tactic|obtain⟨ρ,S,τ,R,r,h⟩:=h)
local macro_rules|`(tactic|mg_lt)=>`(tactic|refine q x τ1 S1 b S2 hx h1 h2 (λhb=>?_) λhb=>?_)
local macro_rules|`(tactic|cb_eq)=>`(tactic|exact I1.vq (aO _) (I1.hok.fresh (aO _)))
local macro_rules|`(tactic|o_rec)=>`(tactic|exact(I10.pin (b,o) (aT _ (aT _ (jk hb e)))).2.1)
local macro_rules|`(tactic|f_are)=>`(tactic|have I7':=I7.pinned (stat fr7) (T.obj _ _ st7))
set_option hygiene true
local macro_rules|`(())=>`(by lia)
@[reducible]def ag:=List Int
@[reducible]def am:=List Nat
@[reducible]def ar:=List PySem.Str
@[reducible]def ba:=List PySem.Value
@[reducible]def bd:=List PySem.Addr
@[reducible]def bi:=Option PySem.Value
@[reducible]def bj:=Option Int
@[reducible]def bn:=Option Bool
@[reducible]def bo:=Option Nat
@[reducible]def bt:=List<|PySem.Addr×PySem.Obj
def aH:=@List.getElem?_eq_getElem
def aI:=@List.getD_eq_getElem?_getD
def aJ:=@PySem.wpAny_bind
def aK:=@List.mem_cons_of_mem
def aL:=@List.getElem?_eq_some_iff
def aM:=@List.mem_cons_self
def aN:=@List.length_map
def aO:=@Nat.le_refl
def aP:=@PySem.wpAny_pure
def aQ:=@PySem.Heap.get?_push_of_some
def aR:=@List.getElem?_append_left
def aS:=@if_pos
def aT:=@List.mem_append_right
def aU:=@if_neg
def aV:=@List.length_append
def aW:=@Option.some.inj
def aX:=@List.size_toArray
def aY:=@List.getElem?_map
def aZ:=@PySem.Heap.lt_size
def a_:=@List.mem_cons
def bf:=@List.mem_singleton
def bg:=@Bool.false_ne_true
def bh:=@decide_eq_true
def br:=@List.append_assoc
def bu:=@Option.map_eq_some_iff
def bw:=@List.length_cons
def bx:=@decide_eq_false
def bz:=@List.mem_of_getElem?
def bA:=@List.mem_append
def bB:=@Nat.ne_of_lt
def bC:=@Nat.le_trans
def bD:=@List.map_cons
def bE:=@Nat.lt_succ_self
def bF:=@List.getElem?_set_ne
def bG:=@List.getElem?_set_self
def bH:=@List.length_set
def bI:=@List.append_nil
def bJ:=@PySem.Heap.get?_push_size
def bK:=@List.mem_map
def bL:=@Nat.zero_le
def bM:=@List.map_map
def bN:=@Nat.lt_of_lt_of_le
def bO:=@List.drop_eq_getElem_cons
def bP:=@List.nodup_cons
def bQ:=@List.pairwise_cons
def bR:=@Option.bind_eq_some_iff
def bS:=@List.flatten_cons
def bT:=@PySem.W.mg_none_of
def bU:=@PySem.wpAny_newObj_type
def bV:=@List.map_append
def bW:=@Nat.sub_self
def bX:=@List.getElem?_append_right
def bY:=@PySem.wpAny_standAt
def bZ:=@Bool.and_eq_true
def b6:=@PyProof.Rows.slot_tuple_getitem
def b7:=@Array.length_toList
def b8:=@List.length_pos_iff
def b9:=@PySem.PassesOwn.never
def b_:=@List.length_take
def cg:=@List.pairwise_singleton
def cj:=@Ne.symm
def cy:=@List.pairwise_append
def cz:=@PySem.F.slot_dict_keyiterator_next
def cA:=@congrArg
def cB:=@PySem.W.kia_one
def cC:=@List.find?_cons
def cD:=@beq_self_eq_true
def cE:=@PySem.F.slot_list_append
def cF:=@PySem.F.type_list_append
def cG:=@Option.bind_some
def cH:=@List.mem_flatten
def cI:=@PySem.mem_of_lookup
def cJ:=@PyProof.Rows.callWith_type1
def cK:=@List.nodup_append
def cL:=@Nat.not_lt_zero
def cM:=@decide_eq_true_iff
def cN:=@List.prefix_refl
def cO:=@List.length_eq_zero_iff
def cP:=@PySem.wpAny_holding
def cQ:=@List.replicate_succ
def cR:=@List.filter_eq_self
def cS:=@List.set_append_right
def cT:=@List.take_append_drop
def cU:=@List.getElem_mem
def cV:=@List.perm_middle
def cW:=@Nat.le_of_lt
def cX:=@Option.isSome_iff_exists
def cY:=@PySem.sizeLine_eq
def cZ:=@PySem.wpAny_typeNameOfWhole_keyiter
def c6:=@List.drop_zero
def c7:=@List.foldl_append
def c8:=@Bool.or_eq_true
def c9:=@beq_eq_false_iff_ne
def c_:=@if_false
def dc:=@List.drop_of_length_le
def dh:=@Int.le_refl
def di:=@List.lookup_cons
def dm:=@PySem.wpAny_mono
def dw:=@Bool.false_eq_true
def dz:=@List.prefix_append
def dB:=@List.Perm.refl
def dD:=@List.getElem?_eq_none_iff
def dF:=@PySem.wpAny_passesOwn
def dG:=@List.length_nil
def dH:=@Nat.le_antisymm
def dI:=@List.mem_append_left
def dJ:=@PySem.wpAny_truthy_bool
def dM:=@List.map_nil
def dN:=@List.mem_iff_getElem
def dO:=@of_decide_eq_true
def dP:=@PySem.wpAny_dictEntries
def dQ:=@List.findIdx_getElem
def dR:=@Nat.lt_or_ge
def dS:=@List.take_succ_eq_append_getElem
def dU:=@PySem.wpAny_typeNameOf_keyiter
def dW:=@List.sum_cons
def dX:=@Nat.lt_succ_iff_lt_or_eq
def dY:=@List.length_drop
def dZ:=@PySem.wpAny_callSpecial?_slot
def d7:=@PySem.wpAny_call_entry
def d8:=@Option.getD_some
def d9:=@PySem.Heap.size_push
def d_:=@Nat.succ_le_succ
def ee:=@List.getElem?_cons_succ
def eg:=@Int.eq_ofNat_of_zero_le
def eB:=@PySem.W.cellsFrom_some
def eE:=@if_true
def eF:=@List.take_of_length_le
def eG:=@List.not_of_lt_findIdx
def eK:=@Nat.mod_lt
def eL:=@List.map_const'
def eN:=@List.any_cons
def eO:=@List.perm_append_comm
def eS:=@List.pairwise_map
def eU:=@List.length_dropLast
def eV:=@List.forall_mem_cons
def eW:=@List.getElem_inj
def eX:=@List.pairwise_iff_getElem
def eY:=@List.getLastD_eq_getLast?
def eZ:=@List.getLast?_eq_getElem?
def e_:=@PySem.F.args_dict_keyiterator_next_1
def ff:=@List.map_eq_nil_iff
def fj:=@List.replicate_zero
def fm:=@List.map_congr_left
def fu:=@Nat.lt_irrefl
def fy:=@List.getElem?_take_of_lt
def fB:=@PySem.F.args_tuple_add_2
def fC:=@PySem.wpAny_comprehension_free
def fD:=@PySem.F.entry_dict_keyiterator_next
def fE:=@Bool.not_true
def fF:=@Nat.div_add_mod
def fG:=@List.length_range'
def fH:=@Int.emod_lt_of_pos
def fJ:=@List.getElem?_replicate
def fK:=@PySem.F.entry_tuple_add
def fL:=@List.filter_cons_of_neg
def fM:=@List.set_eq_take_append_cons_drop
def fN:=@List.mem_range
def fO:=@PySem.F.slot_tuple_add
def fQ:=@List.reverse_cons
def fR:=@decide_eq_true_eq
def fS:=@List.length_pos_of_mem
def fU:=@List.findIdx_le_length
def fV:=@List.getElem?_set
def fW:=@List.head?_eq_getElem?
def fX:=@List.length_replicate
def fY:=@PySem.Heap.get?_update_self
def fZ:=@Array.getElem?_toList
def f6:=@PySem.F.slot_dict_get
def f7:=@PySem.wpAny_isOneOf_keyiter
def f9:=@List.getElem?_eq_none
def f_:=@List.set_getElem_self
def gb:=@Nat.add_sub_add_right
def gc:=@List.cons_append
def gf:=@List.filter_cons
def gg:=@Nat.succ_lt_succ
def gh:=@List.drop_length
def gk:=@PySem.Paired.length
def gn:=@PySem.wpAny_field
def gp:=@List.range_eq_range'
def gq:=@List.getLast?_eq_some_getLast
def gr:=@List.mem_of_mem_take
def gu:=@List.mem_filter
def gv:=@PySem.wpAny_execs_nil
def gw:=@List.nil_append
def gx:=@Int.le_antisymm
def gy:=@Int.emod_nonneg
def gz:=@List.dropLast_concat_getLast
def gA:=@List.filterMap_cons
def gB:=@List.length_reverse
def gC:=@PySem.Heap.SameBut.update
def gD:=@PySem.codeAny_mono
def gE:=@PySem.codeAny_loop
def gF:=@Nat.zero_add
def gG:=@List.set_set
def gH:=@PySem.wpAny_Call_Name_kw
def gI:=@PySem.Heap.IsSliceOf.new
def gJ:=@PySem.wpAny_rule
def gK:=@PySem.tupleKind_room_in1
def gM:=@PySem.wpAny_fieldsOf
def gO:=@List.getElem?_drop
def gP:=@Nat.max_le
def gQ:=@Int.toNat_natCast
def gR:=@PySem.slot_list_getitem
def gS:=@PySem.wpAny_noted
def gU:=@Nat.lt_succ_of_lt
def gV:=@List.length_range
def gW:=@List.findIdx_cons
def gX:=@PySem.evalPart_none
def gY:=@PySem.W.mg_of
def gZ:=@Bool.true_and
def g_:=@List.take_length
def h_:=@List.countP_cons
def ie:=@List.length_tail
def ig:=@List.mem_reverse
def ir:=@Nat.ne_of_gt
def iu:=@beq_iff_eq
def iw:=@List.of_mem_zip
def iy:=@List.filter_map
def iz:=@Prod.ext
@[reducible]def aa:=PySem.Value
@[reducible]def af:=PySem.World
@[reducible]def ah:=PySem.Program
@[reducible]def aq:=PySem.Addr
@[reducible]def au:=PySem.Heap
@[reducible]def aA:=PySem.W.Frag
@[reducible]def aC:=PySem.Around
@[reducible]def aE:=PySem.Shared
@[reducible]def aF:=PySem.Expr
@[reducible]def aG:=PySem.Stmt
def anI{a b:Prop}(h:a)(k:b):a/\b:=⟨h,k⟩
open Int (ediv_one mul_sub)
open List (all_cons map_id map_set map_take)
open Nat (le_succ not_lt succ_mul)
open Option (getD_none isSome_map isSome_some map_map map_some)
namespace L2
open PySem PySem.Spec PyProof.Rows
meta abbrev Key:=Sum Int Str
abbrev vO:Key->aa->Bool
 | .inl k,v=>Value.isInt k v
 | .inr x,v=>Value.isStrOf x v
abbrev Qg (w:af):Key->Int
 | .inl k=>hashInt k
 | .inr x=>hashStr w x
def jC:∀{k:Key}{v:aa},vO k v=true->(∃i t,k=Sum.inl i/\v=Value.int i t)\/(∃x t,k=Sum.inr x/\v=Value.str x t)
 | .inl i,v,h=>by
  obtain⟨t,e⟩:=Value.isInt_shape (k:=i) (v:=v) h;exact .inl ⟨i,t,rfl,e⟩
 | .inr x,v,h=>by
  obtain⟨t,e⟩:=Value.isStrOf_shape (x:=x) (v:=v) h;exact .inr ⟨x,t,rfl,e⟩
def Dr(i:Int)(t:Tok):vO (.inl i) (.int i t)=true:=by simp[vO,Value.isInt]
def DK(x:Str)(t:Tok):vO (.inr x) (.str x t)=true:=by simp[vO,Value.isStrOf]
def NQ(a b:Int):decide ((Sum.inl a:Key)=Sum.inl b)=(a == b):=by
 by_cases e:a=b
 ·subst e;simp
 ·have h:¬(Sum.inl a:Key)=Sum.inl b:=λq=>e<|Sum.inl.inj q;rw[bx h];exact(c9.mpr e).symm
def NG(a b:Str):decide ((Sum.inr a:Key)=Sum.inr b)=decide (a=b):=by
 by_cases e:a=b
 ·subst e;simp
 ·have h:¬(Sum.inr a:Key)=Sum.inr b:=λq=>e<|Sum.inr.inj q;rw[bx h,bx e]
def NC(a:Int)(b:Str):decide ((Sum.inl a:Key)=Sum.inr b)=false:=bx λq=>nomatch q
def Na(a:Str)(b:Int):decide ((Sum.inr a:Key)=Sum.inl b)=false:=bx λq=>nomatch q
abbrev jD (prog:ah)(w:af):PySem.KeyKind prog w Key where
 is:=vO
 hash:=Qg w
 inj:=λv a b d hb=>by
  rcases jC d with⟨i,t,rfl,rfl⟩|⟨x,t,rfl,rfl⟩
  ·rcases jC hb with⟨j,u,rfl,e⟩|⟨y,u,rfl,e⟩
   ·injection e with e1 _;rw[e1]
   ·exact nomatch e
  ·rcases jC hb with⟨j,u,rfl,e⟩|⟨y,u,rfl,e⟩
   ·exact nomatch e
   ·injection e with e1 _;rw[e1]
 byValue:=λk v h=>by
  rcases jC h with⟨i,t,rfl,rfl⟩|⟨x,t,rfl,rfl⟩<;>rfl
 pyHash:=λhv h=>by
  rcases jC hv with⟨i,t,rfl,rfl⟩|⟨x,t,rfl,rfl⟩
  ·exact wpAny_pyHash_int h
  ·exact wpAny_pyHash_str h
 eqBool:=λf hv h=>by
  rcases jC f with⟨i,t,rfl,rfl⟩|⟨x,t,rfl,rfl⟩
  ·rcases jC hv with⟨j,u,rfl,rfl⟩|⟨y,u,rfl,rfl⟩
   ·rw[NQ]at h;exact wpAny_eqBool_int h
   ·rw[NC]at h;exact SeqAt.EqAt.int_str i t y u _ _ _ _ h
  ·rcases jC hv with⟨j,u,rfl,rfl⟩|⟨y,u,rfl,rfl⟩
   ·rw[Na]at h;exact SeqAt.EqAt.str_int x t j u _ _ _ _ h
   ·rw[NG]at h;exact wpAny_eqBool_str h
 «strs»:=λk x t v h=>by
  rcases jC h with⟨i,u,rfl,e⟩|⟨y,u,rfl,e⟩
  ·exact nomatch e
  ·injection e with e1 _
   subst e1
   cases v<;>rfl
def yd(prog:ah)(w:af)(i:Int)(t:Tok):(jD prog w).is (.inl i) (.int i t)=true:=Dr i t
def yW(prog:ah)(w:af)(x:Str)(t:Tok):(jD prog w).is (.inr x) (.str x t)=true:=DK x t
inductive V where
 | non|bl (b:Bool)|int (i:Int)|str (x:Str)|byt (b:Array UInt8)|flt (b:UInt64)|ref (a:aq)|ty (n:String)
 deriving DecidableEq
abbrev RelV:V->aa->Prop
 | .non,u=>u=Value.none
 | .bl b,u=>u=Value.bool b
 | .int i,u=>∃t,u=Value.int i t
 | .str x,u=>∃t,u=Value.str x t
 | .byt b,u=>∃t,u=Value.bytes b t
 | .flt b,u=>∃t,u=Value.float b t
 | .ref a,u=>u=Value.ref a
 | .ty n,u=>u=Value.type n
meta abbrev Vals:List V->ba->Prop:=Paired RelV
def Vals.length{xs:List V}{us:ba}(r:Vals xs us):xs.length=us.length:=gk r
theorem Vals.get:∀{xs:List V}{us:ba}{i:Nat}{x:V},Vals xs us->xs[i]?=some x->∃u,us[i]?=some u/\RelV x u
 | _,_,_,_,.nil,e=>by simp at e
 | _,_,0,_,.cons r _,e=>by simp at e;subst e;exact⟨_,rfl,r⟩
 | _,_,i+1,x,.cons _ t,e=>by
  obtain⟨u,h1,h2⟩:=Vals.get (i:=i) (x:=x) t (by simpa using e);exact⟨u,by simpa using h1,h2⟩
theorem Vals.set{x:V}(r:RelV x u):∀{xs:List V}{us:ba}(i:Nat),Vals xs us->Vals (xs.set i x) (us.set i u)
 | _,_,_,.nil=>.nil
 | _,_,0,.cons _ t=>.cons r t
 | _,_,i+1,.cons q t=>.cons q<|Vals.set r i t
theorem Vals.append:∀{xs ys:List V}{us ws:ba},Vals xs us->Vals ys ws->Vals (xs++ys) (us++ws)
 | _,_,_,_,.nil,s=>s
 | _,_,_,_,.cons r t,s=>.cons r<|Vals.append t s
theorem Vals.take:∀{xs:List V}{us:ba}(n:Nat),Vals xs us->Vals (xs.take n) (us.take n)
 | _,_,0,_=>.nil
 | _,_,_+1,.nil=>.nil
 | _,_,n+1,.cons r t=>.cons r<|Vals.take n t
theorem Vals.drop:∀{xs:List V}{us:ba}(n:Nat),Vals xs us->Vals (xs.drop n) (us.drop n)
 | _,_,0,r=>r
 | _,_,_+1,.nil=>.nil
 | _,_,n+1,.cons _ t=>Vals.drop n t
abbrev u0:Option V->bi->Prop
 | some v,some u=>RelV v u
 | none,none=>True
 | _,_=>False
abbrev KV {κ:Type}:List (κ×V)->List (κ×aa)->Prop:=Paired λ(p:κ×V) (q:κ×aa)=>p.1=q.1/\RelV p.2 q.2
abbrev kV:Key->V
 | .inl i=>.int i
 | .inr x=>.str x
inductive HO where
 | lst (xs:List V)
 | tup (xs:List V)
 | dK (kvs:List<|Key×V)|dT (kvs:List<|List Key×V)
 | set (S:Int->Bool) (n:Nat)
 | ins (C dx:aq) (fs:List<|Str×V)
 | own (x:aq)
 | xd (fs:List<|Str×V)
 | met (f x:aq)
 | rng (lo hi:Int)
 | frz (o:Obj) (u:HO)
 | tbl (ps:Array aa)
 | ext (φ:au->Prop)
meta abbrev Hp:=aq->Option HO
abbrev upd (H:Hp)(a:aq)(o:HO):Hp:=λb=>if b=a then some o else H b
def i7{H:Hp}{a:aq}:upd H a o a=some o:=by unfold upd;rw[aS rfl]
def iG{H:Hp}{a:aq}(h:b≠a):upd H a o b=H b:=by unfold upd;rw[aU h]
def Cv{H:Hp}{a:aq}(h:H a=some o)(h':H b=some u)(d:o≠u):a≠b:=by
 intro e;subst e;rw[h]at h';exact d<|aW h'
def iQ{H:Hp}{a:aq}(h:H a=some o)(h':H b=none):a≠b:=by
 intro e;subst e;rw[h]at h';cases h'
abbrev mK (h:au)(a:aq)(j:Array aa):Prop:=∃o,h.get? a=some o/\o.cls=.type "tuple" /\ o.dict=none/\∃n,o.data=.seq j n
def mK.tup{a:aq}:mK h a items->IsTup h a items:=λ⟨o,e,c,_,n,d⟩=>⟨o,e,c,n,d⟩
def mK.new(h:au)(j:Array aa):mK (h.push { cls:=.type "tuple",data:=.seq j }) h.objs.size j:=⟨_,bJ _ rfl,rfl,rfl,_,rfl⟩
def mK.lt{h:au}{a:aq}(x:mK h a items):a<h.objs.size:=let⟨_,ho,_⟩:=x;aZ ho
section
variable (P:ah) (w:af)
abbrev jx (H:Hp)(h:au)(a:aq):HO->Prop
 | .lst xs=>xs.length<=sizeLine/\∃(d:ba) (n:Nat),Vals xs d/\h.get? a=some { cls:=.type "list",data:=.seq d.toArray n }
 | .tup xs=>xs.length<=sizeLine/\∃d:ba,Vals xs d/\mK h a d.toArray
 | .dK kvs=>kvs.length<=sizeLine/\(a == sysModules)=false/\∃k,KV kvs k/\h.DictOf (jD P w) a k
 | .dT kvs=>kvs.length<=sizeLine/\(a == sysModules)=false/\∃xs:List<|List Key×aq×aa,
   Paired (λ(p:List Key×V) (q:List Key×aq×aa)=>p.1=q.1/\H q.2.1=some (.tup<|p.1.map kV)/\RelV p.2 q.2.2) kvs xs /\
   ∃o es ep,h.get? a=some o/\o.ExactDict/\o.data=.dict es ep/\es.toList=xs.map (entryOfKey<|tupleKind<|jD P w)/\(xs.map (·.1)).Nodup
 | .set S n=>h.SetOf (intKind P w) a S n
 | .ins C dx fs=>H dx=some (.own a)/\fs.length<=1000/\dx≠a/\h.get? a=some (PySem.W.instObj C dx) /\
   ∃g,h.Ns1 dx g/\(∀f,u0 (fs.lookup f)<|g f)/\PySem.Within g (fs.map (·.1))
 | .own _=>∃o,h.get? a=some o
 | .xd fs=>∃g,h.Ns1 a g/\∀f,u0 (fs.lookup f) (g f)
 | .rng lo hi=>∃t u v,h.get? a=some { cls:=.type "range",data:=.fields #[.int lo t,.int hi u,.int 1 v]}
 | .frz o u=>h.get? a=some o/\jx H h a u
 | .tbl ps=>h.get? a=some { cls:=.none,data:=.fields ps }
 | .met f x=>h.get? a=some (PySem.W.methodObj (.ref f)<|.ref x)
 | .ext j=>j h/\(∃o,h.get? a=some o)/\∀h1 h2:au,j h1->(∀o,h1.get? a=some o->h2.get? a=some o)->j h2
abbrev qT (H:Hp)(h:au):Prop:=∀a o,H a=some o->jx P w H h a o
end
section
variable {P:ah}{w:af}{H H':Hp}{h h':au}{a:aq}{o:HO}
def jx.lt(x:jx P w H h a o):a<h.objs.size:=by
 cases o with
 | lst xs=>obtain⟨_,_,_,_,e⟩:=x;exact aZ e
 | tup xs=>obtain⟨_,_,_,p⟩:=x;exact mK.lt p
 | dK kvs=>obtain⟨_,_,_,_,o,_,_,e,_⟩:=x;exact aZ e
 | dT kvs=>obtain⟨_,_,_,_,o,_,_,e,_⟩:=x;exact aZ e
 | set S n=>obtain⟨o,_,_,_,e,_⟩:=x;exact aZ e
 | ins C dx fs=>obtain⟨_,_,_,e,_⟩:=x;exact aZ e
 | own y=>obtain⟨_,e⟩:=x;exact aZ e
 | xd fs=>obtain⟨_,⟨_,_,_,e,_⟩,_⟩:=x;exact aZ e
 | rng lo hi=>obtain⟨_,_,_,e⟩:=x;exact aZ e
 | frz ob u=>obtain⟨e,_⟩:=x;exact aZ e
 | tbl ps=>exact aZ (show h.get? a=some _ from x)
 | met f y=>exact aZ (show h.get? a=some _ from x)
 | ext d=>obtain⟨_,⟨_,e⟩,_⟩:=x;exact aZ e
theorem Paired.MJ{α β:Type}{F G:α->β->Prop}:∀{l₁:List α}{l₂:List β},Paired F l₁ l₂->(∀a b,F a b->G a b)->Paired G l₁ l₂
 | _,_,.nil,_=>.nil
 | _,_,.cons r t,f=>.cons (f _ _ r)<|Paired.MJ t f
def jx.stay(x:jx P w H h a o)(k:∀b u,(b=a\/H b=some (.own a))->h.get? b=some u->h'.get? b=some u)
  (L:∀b,H b=some (.own a)->H' b=some (.own a)) (M:∀b xs,H b=some (.tup xs)->H' b=some (.tup xs)):jx P w H' h' a o:=by
 induction o with
 | lst xs=>obtain⟨z,g,n,r,e⟩:=x;exact⟨z,g,n,r,k _ _ (.inl rfl) e⟩
 | tup xs=>obtain⟨z,g,r,ob,e,c⟩:=x;exact⟨z,g,r,ob,k _ _ (.inl rfl) e,c⟩
 | dK kvs=>obtain⟨z,y,G,r,ob,es,ep,e,c⟩:=x;exact⟨z,y,G,r,ob,es,ep,k _ _ (.inl rfl) e,c⟩
 | dT kvs=>
  obtain⟨z,y,xs,r,ob,es,ep,e,c⟩:=x;exact⟨z,y,xs,Paired.MJ r λp q z=>⟨z.1,M _ _ z.2.1,z.2.2⟩,ob,es,ep,k _ _ (.inl rfl) e,c⟩
 | set S n=>obtain⟨ob,es,ep,t,e,c⟩:=x;exact⟨ob,es,ep,t,k _ _ (.inl rfl) e,c⟩
 | ins C dx fs=>
  obtain⟨d,z,F,e,m,⟨j,es,ep,e2,c⟩,r⟩:=x;exact⟨L _ d,z,F,k _ _ (.inl rfl) e,m,⟨j,es,ep,k _ _ (.inr d) e2,c⟩,r⟩
 | own y=>obtain⟨ob,e⟩:=x;exact⟨ob,k _ _ (.inl rfl) e⟩
 | xd fs=>obtain⟨m,⟨j,es,ep,e,c⟩,r⟩:=x;exact⟨m,⟨j,es,ep,k _ _ (.inl rfl) e,c⟩,r⟩
 | rng lo hi=>obtain⟨t,u,v,e⟩:=x;exact⟨t,u,v,k _ _ (.inl rfl) e⟩
 | frz ob u B=>obtain⟨e,q⟩:=x;exact⟨k _ _ (.inl rfl) e,B q⟩
 | tbl ps=>
  have e:h.get? a=some { cls:=.none,data:=.fields ps }:=x
  skip
  exact k a _ (.inl rfl) e
 | met f y=>
  have e:h.get? a=some (PySem.W.methodObj (.ref f)<|.ref y):=x
  skip
  exact k a _ (.inl rfl) e
 | ext J=>obtain⟨p,⟨o,e⟩,st⟩:=x;exact⟨st _ _ p λo q=>k _ _ (.inl rfl) q,⟨o,k _ _ (.inl rfl) e⟩,st⟩
def qT.lt(x:qT P w H h)(e:H a=some o):a<h.objs.size:=(x a o e).lt
def qT.fresh(x:qT P w H h)(e:h.objs.size<=a):H a=none:=by
 cases q:H a with
 | none=>rfl
 | some u=>exact absurd (bN (x.lt q) e)<|fu _
def qT.kept(x:qT P w H h)(k:∀b u,h.get? b=some u->h'.get? b=some u):qT P w H h':=λa o e=>
 (x a o e).stay (λb u _ q=>k b u q) (λ_ q=>q) λ_ _ q=>q
def qT.laid(x:qT P w H h)(k:∀b u,h.get? b=some u->h'.get? b=some u)(hp:h.objs.size<=a)(new:jx P w (upd H a o) h' a o):qT P w (upd H a o) h':=λb u e=>by
 have hn:=x.fresh hp;by_cases hb:b=a
 ·subst hb;rw[i7]at e;cases e;exact new
 ·rw[iG hb]at e;exact(x b u e).stay (λc v _ q=>k c v q) (λc q=>by rw[iG<|iQ q hn];exact q) λc xs q=>by rw[iG<|iQ q hn];exact q
end
abbrev Rd (H:Hp)(a:aq)(u:HO):Prop:=H a=some u\/∃o,H a=some (.frz o u)
def Rd.ok{P:ah}{w:af}{H:Hp}{a:aq}(r:Rd H a u)(x:qT P w H h):jx P w H h a u:=by
 rcases r with r|⟨o,r⟩
 ·exact x a u r
 ·obtain⟨_,q⟩:=x a _ r;exact q
abbrev Qo:Option HO->Prop
 | some (.lst _)=>True
 | some (.dK _)=>True
 | some (.dT _)=>True
 | some (.set _ _)=>True
 | some (.ins _ _ _)=>True
 | some (.ext _)=>True
 | _=>False
section
variable {P:ah}{w:af}{H:Hp}{h h':au}{x e:aq}{o':HO}
def qT.write(ok:qT P w H h)(J:Qo<|H x)(M:e=x\/H e=some (.own x))(k:∀b u,b≠e->h.get? b=some u->h'.get? b=some u)(L:∃u,h'.get? e=some u)
  (new:jx P w (upd H x o') h' x o'):qT P w (upd H x o') h':=λb u q=>by
 have f:∀c y,H c=some (.own y)->c≠x:=λc y r z=>by subst z;rw[r]at J;exact J
 have g:∀c xs,H c=some (.tup xs)->c≠x:=λc xs r z=>by subst z;rw[r]at J;exact J
 by_cases hb:b=x
 ·subst hb;rw[i7]at q;cases q;exact new
 ·rw[iG hb]at q;by_cases d:b=e
  ·have j:H b=some (.own x):=by
    rcases M with z|z
    ·exact absurd (d.trans z) hb
    ·rw[d];exact z
   rw[q]at j;cases j;obtain⟨v,hv⟩:=L;exact⟨v,by rw[d];exact hv⟩
  ·refine(ok b u q).stay (λc v hc r=>k c v ?_ r) (λc r=>by rw[iG<|f c b r];exact r) λc xs r=>by rw[iG<|g c xs r];exact r
   rcases hc with rfl|hc
   ·exact d
   ·rintro rfl
    rcases M with z|z
    ·exact f c b hc z
    ·rw[hc]at z;cases z;exact hb rfl
end
structure Un (fs ex:bd)(H H':Hp)(h h':au):Prop where
 keep:∀b o,h.get? b=some o->H b=none->b∉fs->b∉ex->h'.get? b=some o
 slot:∀b o,h.get? b=some o->H b=none->b∈fs->b∉ex->∃sl,h'.get? b=some { o with slots:=sl }
 free:∀b o,h.get? b=some o->H b=none->b∉ex->H' b=none
 there:∀b o,h.get? b=some o->b∉ex->∃o',h'.get? b=some o'
 tups:∀b xs,H b=some (.tup xs)->H' b=some (.tup xs)
 frzs:∀b o u,H b=some (.frz o u)->H' b=some (.frz o u)
 tbls:∀b ps,H b=some (.tbl ps)->∃more,H' b=some (.tbl<|ps++more)
section
variable {fs ex:bd}{H H1:Hp}{h h1 h':au}{a x e:aq}{o:HO}
def Un.any(u:Un fs ex H H1 h h1){ob:Obj}(q:h.get? b=some ob)(n:H b=none)(hx:b∉ex):∃sl,h1.get? b=some { ob with slots:=sl }:=by
 by_cases hb:b∈fs
 ·exact u.slot b ob q n hb hx
 ·exact⟨ob.slots,u.keep b ob q n hb hx⟩
def Un.kept(k:∀b u,h.get? b=some u->h'.get? b=some u):Un fs ex H H h h':=
 ⟨λb ob q _ _ _=>k b ob q,λb ob q _ _ _=>⟨ob.slots,k b ob q⟩,λ_ _ _ n _=>n,λb ob q _=>⟨ob,k b ob q⟩,λ_ _ q=>q,λ_ _ _ q=>q,λ_ ps q=>⟨#[],by rw[q];simp⟩⟩
def Un.refl:Un fs ex H H h h:=Un.kept λ_ _ q=>q
def Un.laid(k:∀b u,h.get? b=some u->h'.get? b=some u)(hp:h.objs.size<=a)(hn:H a=none):Un fs ex H (upd H a o) h h' where
 keep:=λb u q _ _ _=>k b u q
 slot:=λb u q _ _ _=>⟨u.slots,k b u q⟩
 free:=λb u q n _=>by rw[iG<|bB<|bN (aZ q) hp];exact n
 there:=λb u q _=>⟨u,k b u q⟩
 tups:=λb xs q=>by rw[iG<|iQ q hn];exact q
 frzs:=λb u xs q=>by rw[iG<|iQ q hn];exact q
 tbls:=λb ps q=>⟨#[],by rw[iG<|iQ q hn,q];simp⟩
def Un.write(j:Qo<|H x)(L:e=x\/H e=some (.own x))(k:∀b u,b≠e->h.get? b=some u->h'.get? b=some u)(J:∃u,h'.get? e=some u):Un fs ex H (upd H x o) h h':=by
 have hx:∀b,H b=none->b≠x:=λb n z=>by subst z;rw[n]at j;exact j
 have hb:∀b,H b=none->b≠e:=λb n z=>by
  subst z
  rcases L with r|r
  ·exact hx b n r
  ·rw[n]at r;cases r
 have hm:∀b u,H b=some u->¬Qo (some u)->b≠x:=λb u q f z=>by subst z;rw[q]at j;exact f j
 refine⟨λb u q n _ _=>k b u (hb b n) q,λb u q n _ _=>⟨u.slots,k b u (hb b n) q⟩,λb u q n _=>by rw[iG<|hx b n];exact n,λb u q _=>?_,
  λb xs q=>by rw[iG<|hm b _ q λz=>z];exact q,λb u xs q=>by rw[iG<|hm b _ q λz=>z];exact q,λb ps q=>⟨#[],by rw[iG<|hm b _ q λz=>z,q];simp⟩⟩
 by_cases d:b=e
 ·subst d;exact J
 ·exact⟨u,k b u d q⟩
end
abbrev QT (h:au)(H:Hp):bd:=(List.range h.objs.size).filter λa=>(H a).isSome
abbrev wH (h:au)(H:Hp):au:=PySem.W.hideAll h<|QT h H
def Dq(h:au)(H:Hp):(wH h H).objs.size=h.objs.size:=PySem.W.hideAll_size _ _
def Hx{h:au}{H:Hp}(e:h.get? b=some o)(n:H b=none):(wH h H).get? b=some o:=
 PySem.W.hideAll_get _ e λhm=>by
  have q:(H b).isSome=true:=(gu.mp hm).2;rw[n]at q;simp at q
def Lc{h:au}{H:Hp}(e:(wH h H).get? b=some o):h.get? b=some o/\H b=none:=by
 have d:h.get? b=some o:=PySem.W.of_hideAll (QT h H) e;refine⟨d,?_⟩
 cases q:H b with
 | none=>rfl
 | some x=>
  have hm:b∈QT h H:=gu.mpr ⟨fN.mpr<|aZ d,by simp[q]⟩;have z:(wH h H).get? b=none:=PySem.W.hideAll_none (QT h H) hm;rw[z]at e;cases e
abbrev Js (g h:au)(L:aq):bt:=(List.range h.objs.size).filterMap λa=>if a=L\/(g.get? a).isSome=true then none else(h.get? a).map λo=>(a,o)
abbrev rest (g h:au)(L d:aq):bt:=(Js g h L).filter λp=>decide<|p.1≠d
structure Mod (K:aA)(mg:Str->bi)(base:au):Prop where
 kin:K.In base
 glob:base.Ns mainGlobals mg
 blt:∃mb,base.Ns builtinsNs mb/\∀x:Str,x ≠ "__name__" -> mb x=bootBuiltins x
 nolimit:base.NoLimit
structure Cx where
 prog:ah
 w:af
 K:aA
 mg:Str->bi
 base:au
 A:aC
 N:ar
 s₀:aE
 H₀:Hp
 env:Env
 outer:List Env
 stack:List Env
 ex:bd
 fn:Str->Bool
 calm:Bool
 pn:bt
 xe:aa->aE->Prop
abbrev frs (l:List Env):bd:=l.filterMap (·.frame)
meta abbrev Cx.fs (X:Cx):bd:=frs X.outer
abbrev OU (j:Scope)(x:Str):Prop:=j.names.lookup x=some .local\/j.names.lookup x=some .cell\/j.names.lookup x=some .free
abbrev Loc (j:Scope)(x:Str):Prop:=j.names.lookup x=some .local\/j.names.lookup x=some .cell
abbrev Look (env:Env)(h:au)(m:Str->bi)(x:Str)(u:aa):Prop:=
 (env.kindOf x=some .local/\m x=some u)\/((env.kindOf x=some .cell\/env.kindOf x=some .free)/\∃c,env.cells.lookup x=some c/\h.IsCell c (some u))
structure Cx.Ok (X:Cx):Prop where
 mod:Mod X.K X.mg X.base
 kind:X.env.scope.kind=.function
 glob:X.env.globals=mainGlobals
 blt:X.env.builtins=builtinsNs
 above:X.s₀.heap.objs.size<=X.env.locals
 inj:∀x y c,X.env.cells.lookup x=some c->X.env.cells.lookup y=some c->x=y
 has:∀x,(X.env.kindOf x=some .cell\/X.env.kindOf x=some .free)->∃c,X.env.cells.lookup x=some c
 cab:∀x c,X.fn x=true->X.env.cells.lookup x=some c->X.s₀.heap.objs.size<=c
 hd:X.calm=true->X.A.handled=none
 frames:X.A.frames=some X.stack
 stk:X.stack=X.outer\/(X.stack=X.env::X.outer/\X.env.frame=some X.env.locals)
 exf:∀b∈X.ex,b≠X.env.locals/\∀x c,X.env.cells.lookup x=some c->c≠b
 bs:∀b o,X.base.get? b=some o->X.s₀.heap.get? b=some o/\X.H₀ b=none
 bsz:X.base.objs.size<=X.s₀.heap.objs.size
 noex:∀b o,X.base.get? b=some o->b∉X.ex
 exfs:∀b∈X.ex,b∉X.fs
 uM:X.s₀.heap.FunFrames X.base X.outer
 frf:∀b∈X.fs,X.H₀ b=none
structure Inv (X:Cx)(pins:bt)(σ:List (Option V))(H:Hp)(s:aE):Prop where
 ok:X.Ok
 os:s.os=X.s₀.os
 bare:AllBare s.gens
 base:Un X.fs X.ex X.H₀ H X.s₀.heap s.heap
 loc:∃m,s.heap.Ns X.env.locals m/\∀(i:Nat) (x:Str) (v:V),X.N[i]?=some x->σ[i]?=some (some v)->OU X.env.scope x->∃u,RelV v u/\Look X.env s.heap m x u
 cell:∀x c,X.env.cells.lookup x=some c->∃v,s.heap.IsCell c v
 free:H X.env.locals=none
 freeC:∀x c,X.env.cells.lookup x=some c->H c=none
 pin:∀p∈X.pn++pins,s.heap.get? p.1=some p.2/\H p.1=none/\p.1≠X.env.locals/\p.1∉X.fs/\∀v,p.2.data≠.cell v
 hok:qT X.prog X.w H s.heap
 len:σ.length=X.N.length
section
variable {X:Cx}{pins:bt}{σ:List (Option V)}{H H':Hp}{s:aE}{h':au}
def Cx.Ok.SD(ok:X.Ok)(e:X.base.get? b=some o):b∉X.fs:=λhb=>by
 have:=(ok.uM.mem hb).1;rw[e]at this;cases this
def Inv.bs(I:Inv X pins σ H s):∀b o,X.base.get? b=some o->s.heap.get? b=some o/\H b=none:=λb o e=>
 ⟨I.base.keep b o (I.ok.bs b o e).1 (I.ok.bs b o e).2 (I.ok.SD e)<|I.ok.noex b o e,I.base.free b o (I.ok.bs b o e).1 (I.ok.bs b o e).2<|I.ok.noex b o e⟩
def Inv.bk(I:Inv X pins σ H s):∀b o,X.base.get? b=some o->s.heap.get? b=some o:=λb o e=>(I.bs b o e).1
def Inv.mod(I:Inv X pins σ H s):Mod X.K X.mg X.base:=I.ok.mod
def Inv.xY(I:Inv X pins σ H s):X.K.In s.heap:=I.ok.mod.kin.keeps I.bk
def Inv.lt(I:Inv X pins σ H s):X.env.locals<s.heap.objs.size:=let⟨_,hn,_⟩:=I.loc;hn.lt
def Inv.sz(I:Inv X pins σ H s):X.s₀.heap.objs.size<=s.heap.objs.size:=bC I.ok.above<|cW I.lt
def Inv.RU(I:Inv X pins σ H s){a:aq}(h:s.heap.objs.size<=a):a∉X.fs:=λhb=>by
 obtain⟨_,o,d,_⟩:=I.ok.uM.mem hb;exact absurd (bN (aZ d)<|bC I.sz h)<|fu _
def Inv.NT(I:Inv X pins σ H s):∀x c,X.env.cells.lookup x=some c->c≠X.env.locals:=λx c e z=>by
 obtain⟨v,o,g,hd⟩:=I.cell x c e;obtain⟨m,⟨o',es,ep,f,d,_⟩,_⟩:=I.loc;rw[z,f]at g;cases g;rw[d]at hd;cases hd
def Inv.uM(I:Inv X pins σ H s):s.heap.FunFrames X.base X.outer:=by
 have all:∀(l:List Env),(∀b∈frs l,b∈X.fs)->X.s₀.heap.FunFrames X.base l->s.heap.FunFrames X.base l:=by
  intro l
  induction l with
  | nil=>intro _ _;trivial
  | cons env r j=>
   intro hs k;obtain⟨g,⟨L,o,hf,hn,f,hd⟩,hr⟩:=k;have d:L∈X.fs:=hs L (by unfold frs;rw[gA,hf];exact aM);obtain⟨m,e⟩:=I.base.slot L o f (I.ok.frf L d) d λz=>I.ok.exfs L z d;exact⟨g,⟨L,_,hf,hn,e,hd⟩,j (λb hb=>hs b<|by unfold frs;rw[gA,hf];exact aK _ hb) hr⟩
 exact all X.outer (λ_ hb=>hb) I.ok.uM
def Inv.stack(I:Inv X pins σ H s):s.heap.FunFrames X.base X.stack:=by
 rcases I.ok.stk with e|⟨e,hf⟩
 ·rw[e];exact I.uM
 ·rw[e];obtain⟨m,hn,_⟩:=I.loc;refine .cons (by rw[I.ok.kind];decide) hf hn ?_ I.uM;exact Heap.get?_none_of_le<|bC I.ok.bsz I.ok.above
def Inv.AA(I:Inv X pins σ H s):∀b∈frs X.stack,b∈X.env.locals::X.fs:=λb hb=>by
 rcases I.ok.stk with e|⟨e,hf⟩
 ·rw[e]at hb;exact aK _ hb
 ·rw[e]at hb;unfold frs at hb;rw[gA,hf]at hb;exact hb
def Inv.CT(I:Inv X pins σ H s):∀b∈frs X.stack,H b=none:=λb hb=>by
 rcases a_.mp (I.AA b hb)with e|hb
 ·rw[e];exact I.free
 ·obtain⟨_,o,d,_⟩:=I.ok.uM.mem hb;exact I.base.free b o d (I.ok.frf b hb) λz=>I.ok.exfs b z hb
def Inv.step{g':Array GenState}{t':Nat}{d':Drawn}{ch:bd}(I:Inv X pins σ H s)
  (L:∀b∈ch,(b∈X.ex\/X.s₀.heap.objs.size<=b)/\b≠X.env.locals/\(∀x c,X.env.cells.lookup x=some c->c≠b)/\∀p∈X.pn++pins,p.1≠b)
  (keep:∀b o,b≠X.env.locals->b∉X.fs->b∉ch->s.heap.get? b=some o->H b=none->h'.get? b=some o)
  (slot:∀b o,b≠X.env.locals->b∈X.fs->b∉ch->s.heap.get? b=some o->H b=none->∃sl,h'.get? b=some { o with slots:=sl }) (free:∀b o,b∉ch->s.heap.get? b=some o->H b=none->H' b=none)
  (there:∀b o,b∉ch->s.heap.get? b=some o->∃o',h'.get? b=some o')
  (tups:∀b xs,H b=some (.tup xs)->H' b=some (.tup xs)) (frzs:∀b o u,H b=some (.frz o u)->H' b=some (.frz o u)) (tbls:∀b ps,H b=some (.tbl ps)->∃more,H' b=some (.tbl<|ps++more))
  (ns:∀m,s.heap.Ns X.env.locals m->h'.Ns X.env.locals m) (hok:qT X.prog X.w H' h') (hg:AllBare g') :
  Inv X pins σ H' { s with heap:=h',gens:=g',drawn:=d',toks:=t' }:=by
 have B:∀b o,X.s₀.heap.get? b=some o->b≠X.env.locals:=λb o e=>bB<|bN (aZ e) I.ok.above;have j:∀b o,X.s₀.heap.get? b=some o->b∉X.ex->b∉ch:=λb o e hx hb=>by
  rcases(L b hb).1 with z|z
  ·exact hx z
  ·exact absurd (bN (aZ e) z)<|fu _
 have g:∀x c,X.env.cells.lookup x=some c->∀v,s.heap.IsCell c v->h'.IsCell c v:=λx c e v ⟨o,t,hd⟩=>by
  have f:c∉ch:=λz=>(L c z).2.2.1 x c e rfl;by_cases hc:c∈X.fs
  ·obtain⟨sl,q⟩:=slot c o (I.NT x c e) hc f t<|I.freeC x c e;exact⟨_,q,hd⟩
  ·exact⟨o,keep c o (I.NT x c e) hc f t<|I.freeC x c e,hd⟩
 refine⟨I.ok,I.os,hg,⟨λb o e n hb hx=>?_,λb o e n hb hx=>?_,λb o e n hx=>?_,λb o e hx=>?_,λb xs e=>tups b xs<|I.base.tups b xs e,λb o xs e=>frzs b o xs<|I.base.frzs b o xs e,λb ps e=>?_⟩,?_,λx c e=>?_,?_,λx c e=>?_,λp hp=>?_,hok,I.len⟩
 ·exact keep b o (B b o e) hb (j b o e hx) (I.base.keep b o e n hb hx) (I.base.free b o e n hx)
 ·obtain⟨sl,e1⟩:=I.base.slot b o e n hb hx;obtain⟨C,e2⟩:=slot b _ (B b o e) hb (j b o e hx) e1<|I.base.free b o e n hx;exact⟨C,e2⟩
 ·obtain⟨o',e1⟩:=I.base.there b o e hx;exact free b o' (j b o e hx) e1 (I.base.free b o e n hx)
 ·obtain⟨o',e1⟩:=I.base.there b o e hx;exact there b o' (j b o e hx) e1
 ·obtain⟨m1,e1⟩:=I.base.tbls b ps e;obtain⟨m2,e2⟩:=tbls b _ e1;exact⟨m1++m2,by rw[e2,Array.append_assoc]⟩
 ·obtain⟨m,hn,K⟩:=I.loc;refine⟨m,ns m hn,λi x v e1 e2 J=>?_⟩;obtain⟨u,r,l⟩:=K i x v e1 e2 J;refine⟨u,r,?_⟩
  rcases l with l|⟨k,c,e,z⟩
  ·exact .inl l
  ·exact .inr ⟨k,c,e,g x c e _ z⟩
 ·obtain⟨v,z⟩:=I.cell x c e;exact⟨v,g x c e v z⟩
 ·obtain⟨m,⟨o,_,_,t,_⟩,_⟩:=I.loc;exact free _ o (λz=>(L _ z).2.1 rfl) t I.free
 ·obtain⟨v,o,t,hd⟩:=I.cell x c e;exact free c o (λz=>(L c z).2.2.1 x c e rfl) t (I.freeC x c e)
 ·obtain⟨e,n,F,G,d⟩:=I.pin p hp;have f:p.1∉ch:=λz=>(L p.1 z).2.2.2 p hp rfl;exact⟨keep p.1 p.2 F G f e n,free p.1 p.2 f e n,F,G,d⟩
def Inv.un{t':Nat}(I:Inv X pins σ H s)(u:Un X.fs [] H H' s.heap h')(hok:qT X.prog X.w H' h'):Inv X pins σ H' { s with heap:=h',toks:=t' }:=by
 obtain⟨m,⟨o,es,ep,j,r⟩,_⟩:=id I.loc;obtain⟨z,k⟩:=u.any j I.free (by simp);exact I.step (g':=s.gens) (d':=s.drawn) (ch:=[]) (nofun) (λb o _ hb _ e n=>u.keep b o e n hb<|by simp) (λb o _ hb _ e n=>u.slot b o e n hb<|by simp) (λb o _ e n=>u.free b o e n<|by simp) (λb o _ e=>u.there b o e<|by simp) u.tups u.frzs u.tbls (λm' hm=>by
  obtain⟨o',f,g,d,t⟩:=hm;rw[j]at d;cases d;exact⟨_,f,g,k,t⟩) hok I.bare
def Inv.call{g':Array GenState}{t':Nat}{d':Drawn}{ch:bd}(I:Inv X pins σ H s)(u:Un (frs X.stack) ch H H' s.heap h')(hok:qT X.prog X.w H' h')(hg:AllBare g')
  (J:∀b∈ch,(b∈X.ex\/X.s₀.heap.objs.size<=b)/\b≠X.env.locals/\(∀x c,X.env.cells.lookup x=some c->c≠b)/\∀p∈X.pn++pins,p.1≠b) :
  Inv X pins σ H' { s with heap:=h',gens:=g',drawn:=d',toks:=t' }:=by
 obtain⟨m,⟨o,es,ep,k,r⟩,_⟩:=id I.loc;obtain⟨B,f⟩:=u.any k I.free λz=>(J _ z).2.1 rfl;exact I.step (ch:=ch) J (λb o f hb hc e n=>u.keep b o e n (λz=>(a_.mp<|I.AA b z).elim f hb) hc) (λb o _ _ hc e n=>u.any e n hc) (λb o hc e n=>u.free b o e n hc) (λb o hc e=>u.there b o e hc) u.tups u.frzs u.tbls (λm' hm=>by
  obtain⟨o',g,j,d,t⟩:=hm;rw[k]at d;cases d;exact⟨_,g,j,f,t⟩) hok hg
def Inv.turned{t':Nat}{it:aq}(I:Inv X pins σ H s)(k:∀b o,b≠it->s.heap.get? b=some o->h'.get? b=some o)(hn:H it=none)(j:it≠X.env.locals)
  (h1:it∈X.ex\/X.s₀.heap.objs.size<=it) (h2:∀x c,X.env.cells.lookup x=some c->c≠it) (J:∀p∈X.pn++pins,p.1≠it):Inv X pins σ H { s with heap:=h',toks:=t' }:=by
 have d:∀b u,H b=some u->b≠it:=λb u e z=>by rw[z,hn]at e;cases e
 refine I.step (g':=s.gens) (d':=s.drawn) (ch:=[it]) (λb hb=>?_) (λb o _ _ hc e _=>k b o (λz=>hc<|by simp[z]) e) (λb o _ _ hc e _=>⟨o.slots,k b o (λz=>hc<|by simp[z]) e⟩) (λ_ _ _ _ n=>n)
  (λb o hc e=>⟨o,k b o (λz=>hc<|by simp[z]) e⟩) (λ_ _ e=>e) (λ_ _ _ e=>e) (λb ps e=>⟨#[],by rw[e];simp⟩) (λm hm=>?_) (λb u e=>?_) I.bare
 ·have e:b=it:=by simpa using hb
  subst e;exact⟨h1,j,h2,J⟩
 ·obtain⟨o,es,ep,f,r⟩:=hm;exact⟨o,es,ep,k _ o (cj j) f,r⟩
 ·refine(I.hok b u e).stay (λc v hc q=>k c v ?_ q) (λ_ q=>q) λ_ _ q=>q
  rcases hc with z|z
  ·rw[z];exact d b u e
  ·exact d c _ z
def Inv.tok(I:Inv X pins σ H s)(t:Nat):Inv X pins σ H { s with toks:=t }:=I.un (h':=s.heap) (t':=t) Un.refl I.hok
def Inv.kept{t':Nat}(I:Inv X pins σ H s)(k:∀b u,s.heap.get? b=some u->h'.get? b=some u):Inv X pins σ H { s with heap:=h',toks:=t' }:=I.un (Un.kept k)<|I.hok.kept k
def Inv.laid{a:aq}{t':Nat}(I:Inv X pins σ H s)(k:∀b u,s.heap.get? b=some u->h'.get? b=some u)(hp:s.heap.objs.size<=a)(new:jx X.prog X.w (upd H a o) h' a o) :
  Inv X pins σ (upd H a o) { s with heap:=h',toks:=t' }:=I.un (Un.laid k hp<|I.hok.fresh hp)<|I.hok.laid k hp new
def Inv.write{x:aq}{t':Nat}(I:Inv X pins σ H s)(J:Qo<|H x)(L:e=x\/H e=some (.own x))(k:∀b u,b≠e->s.heap.get? b=some u->h'.get? b=some u)(j:∃u,h'.get? e=some u)
  (new:jx X.prog X.w (upd H x o) h' x o):Inv X pins σ (upd H x o) { s with heap:=h',toks:=t' }:=I.un (Un.write J L k j)<|I.hok.write J L k j new
def Inv.B7{j:bt}(I:Inv X pins σ H s)(h:∀p∈j,s.heap.get? p.1=some p.2/\H p.1=none/\p.1≠X.env.locals/\p.1∉X.fs/\∀v,p.2.data≠.cell v):Inv X j σ H s:=
 ⟨I.ok,I.os,I.bare,I.base,I.loc,I.cell,I.free,I.freeC,λp hp=>(bA.mp hp).elim (λz=>I.pin p<|dI _ z)<|h p,I.hok,I.len⟩
def yQ{N:ar}(J:N.Nodup){i j:Nat}{x:Str}(a:N[i]?=some x)(b:N[j]?=some x):i=j:=by
 obtain⟨h1,e1⟩:=aL.mp a;obtain⟨h2,e2⟩:=aL.mp b;exact(eW J).mp (e1.trans e2.symm)
def _root_.γ0(h:1=1:=by first|exact .inl rfl|exact .inr rfl|assumption):1=1:=h
def _root_.γ:Lean.Syntax:=γ0._auto_1
def _root_.δ0(h:1=1:=by decide):1=1:=h
def _root_.δ:Lean.Syntax:=δ0._auto_1
def _root_.ε0(h:1=1:=by rfl):1=1:=h
def _root_.ε:Lean.Syntax:=ε0._auto_1
def _root_.ζ0(h:1=1:=by intro _;rfl):1=1:=h
def _root_.ζ:Lean.Syntax:=ζ0._auto_1
def _root_.η0(h:1=1:=by with_unfolding_all rfl):1=1:=h
def _root_.η:Lean.Syntax:=η0._auto_1
def _root_.θ0(h:1=1:=by exact λ_ _=>rfl):1=1:=h
def _root_.θ:Lean.Syntax:=θ0._auto_1
def Er{A:aC}{E:aa->aE->Prop}{i:Nat}{x:Str}{v:V}{Q:Unit->aE->Prop}(I:Inv X pins σ H s)(hN:X.N.Nodup)(hi:X.N[i]?=some x)(hx:Loc X.env.scope x)(r:RelV v u)
  (h:∀s',Inv X pins (σ.set i<|some v) H s'->(∃a,Heap.SameBut a s.heap s'.heap/\(a=X.env.locals\/X.env.cells.lookup x=some a))->Q Unit.unit s') (hf:X.fn x=true\/X.env.scope.names.lookup x=some .local<|>γ):wpAny M A (storeName X.env x u) Q E s:=by
 obtain⟨m,hn,hl⟩:=id I.loc;have F:(X.env.scope.kind == .class || (X.env.scope.kind == .module && X.env.locals != X.env.globals))=false:=by rw[I.ok.kind];rfl
 have t:i<σ.length:=by rw[I.len];exact(aL.mp hi).1
 have NT:=I.NT;have f:∀{a:aq} {h':au},(∃o,s.heap.get? a=some o/\H a=none)->Heap.SameBut a s.heap h'->qT X.prog X.w H h':=λ{a h'} ha hs b ob e=>by
  obtain⟨_,_,hfree⟩:=ha;refine(I.hok b ob e).stay (λc P hc q=>(hs.2 c ?_).trans q) (λ_ q=>q) λ_ _ q=>q;rintro rfl
  rcases hc with rfl|hc
  ·rw[hfree]at e;cases e
  ·rw[hfree]at hc;cases hc
 rcases hx with g|g
 ·refine wpAny_storeName_local g hn (λh' hn' hs=>?_) F;obtain⟨oL,_,_,hoL,_⟩:=id hn;refine h _ ⟨I.ok,I.os,I.bare,⟨λb o e n hb hx=>?_,λb o e n hb hx=>?_,I.base.free,λb o e hx=>?_,I.base.tups,I.base.frzs,I.base.tbls⟩,⟨_,hn',λj y W e1 e2 Z=>?_⟩,λy c e=>?_,I.free,I.freeC,λp hp=>?_,f ⟨oL,hoL,I.free⟩ hs,by simpa using I.len⟩ ⟨_,hs,.inl rfl⟩
  ·exact(hs.2 b<|bB<|bN (aZ e) I.ok.above).trans (I.base.keep b o e n hb hx)
  ·obtain⟨sl,e1⟩:=I.base.slot b o e n hb hx;exact⟨sl,(hs.2 b<|bB<|bN (aZ e) I.ok.above).trans e1⟩
  ·obtain⟨o',e1⟩:=I.base.there b o e hx;exact⟨o',(hs.2 b<|bB<|bN (aZ e) I.ok.above).trans e1⟩
  ·by_cases C:j=i
   ·subst C;rw[hi]at e1;cases e1;rw[bG t]at e2
    cases e2
    exact⟨u,r,.inl ⟨g,by simp⟩⟩
   ·rw[bF<|cj C]at e2;obtain⟨u',Y,q⟩:=hl j y W e1 e2 Z;refine⟨u',Y,?_⟩
    rcases q with⟨k,e⟩|⟨k,c,e,z⟩
    ·refine .inl ⟨k,?_⟩;have:y≠x:=λe=>C<|yQ hN e1<|e ▸ hi;simp[this,e]
    ·exact .inr ⟨k,c,e,z.sameBut hs<|NT y c e⟩
  ·obtain⟨P,z⟩:=I.cell y c e;exact⟨P,z.sameBut hs<|NT y c e⟩
  ·obtain⟨e,n,U,nf,d⟩:=I.pin p hp;exact⟨(hs.2 p.1 U).trans e,n,U,nf,d⟩
 ·have B:X.fn x=true:=by
   rcases hf with z|z
   ·exact z
   ·rw[z]at g;cases g
  obtain⟨c,hc⟩:=I.ok.has x<|.inl g;obtain⟨P,z⟩:=I.cell x c hc;refine wpAny_storeName_cell I.ok.kind g hc z λh' J hs=>?_;obtain⟨oc,K,L⟩:=id z;refine h { s with heap:=h' } ⟨I.ok,I.os,I.bare,⟨λb o e n hb hx=>?_,λb o e n hb hx=>?_,I.base.free,λb o e hx=>?_,I.base.tups,I.base.frzs,I.base.tbls⟩,⟨m,hn.sameBut hs<|cj<|NT x c hc,λj y W e1 e2 Z=>?_⟩,λy O e=>?_,I.free,I.freeC,λp hp=>?_,f ⟨oc,K,I.freeC x c hc⟩ hs,by simpa using I.len⟩ ⟨c,hs,.inr hc⟩
  ·exact(hs.2 b<|bB<|bN (aZ e)<|I.ok.cab x c B hc).trans (I.base.keep b o e n hb hx)
  ·obtain⟨sl,e1⟩:=I.base.slot b o e n hb hx;exact⟨sl,(hs.2 b<|bB<|bN (aZ e)<|I.ok.cab x c B hc).trans e1⟩
  ·obtain⟨o',e1⟩:=I.base.there b o e hx;exact⟨o',(hs.2 b<|bB<|bN (aZ e)<|I.ok.cab x c B hc).trans e1⟩
  ·by_cases C:j=i
   ·subst C;rw[hi]at e1;cases e1;rw[bG t]at e2
    cases e2
    exact⟨u,r,.inr ⟨.inl g,c,hc,J⟩⟩
   ·rw[bF<|cj C]at e2;obtain⟨u',Y,q⟩:=hl j y W e1 e2 Z;refine⟨u',Y,?_⟩
    rcases q with q|⟨k,O,e,z'⟩
    ·exact .inl q
    ·refine .inr ⟨k,O,e,z'.sameBut hs ?_⟩;rintro rfl;exact C<|yQ hN e1<|I.ok.inj _ _ _ e hc ▸ hi
  ·by_cases G:O=c
   ·subst G;exact⟨_,J⟩
   ·obtain⟨w2,z2⟩:=I.cell y O e;exact⟨w2,z2.sameBut hs G⟩
  ·obtain⟨e,n,U,nf,d⟩:=I.pin p hp;refine⟨(hs.2 p.1 ?_).trans e,n,U,nf,d⟩;intro q;rw[q,K]at e;have q':oc=p.2:=aW e;exact d P<|by rw[<- q'];exact L
def vt{A:aC}{E:aa->aE->Prop}{i:Nat}{x:Str}{v:V}{Q:Unit->aE->Prop}(I:Inv X pins σ H s)(j:X.N.Nodup)(hi:X.N[i]?=some x)(hx:Loc X.env.scope x)(r:RelV v u)
  (h:∀s',Inv X pins (σ.set i<|some v) H s'->Q Unit.unit s') (hf:X.fn x=true\/X.env.scope.names.lookup x=some .local<|>γ):wpAny M A (storeName X.env x u) Q E s:=
 Er I j hi hx r (λs' d _=>h s' d) hf
def Inv.yZ{s':aE}{ch:bd}(I:Inv X pins σ H s)(J:s'.os=s.os)(u:Un (frs X.stack) ch H H' s.heap s'.heap)(hok:qT X.prog X.w H' s'.heap)(hg:AllBare s'.gens)
  (j:∀b∈ch,(b∈X.ex\/X.s₀.heap.objs.size<=b)/\b≠X.env.locals/\(∀x c,X.env.cells.lookup x=some c->c≠b)/\∀p∈X.pn++pins,p.1≠b):Inv X pins σ H' s':=by
 obtain⟨h',g',d',t',o'⟩:=s';have e:o'=s.os:=J;subst e;exact I.call (g':=g') (t':=t') (d':=d') u hok hg j
end
meta abbrev XK:=aa->Option aq->Hp->Prop
meta abbrev St:=List<|Option V
meta abbrev VK:=V->Hp->Prop
meta abbrev TE:=St->Hp->VK->Prop
meta abbrev TT:=St->Hp->(Bool->Hp->Prop)->Prop
meta abbrev TA:=St->Hp->(List V->Hp->Prop)->Prop
structure Ends where
 nx:St->Hp->Prop
 rt:VK
 bk:St->Hp->Prop:=λ_ _=>False
 ct:St->Hp->Prop:=λ_ _=>False
meta abbrev TS:=Ends->St->Hp->Prop
abbrev EP (X:Cx)(pins:bt)(σ:St)(Q:VK)(u:aa)(s':aE):Prop:=∃v H',Inv X pins σ H' s'/\RelV v u/\Q v H'
abbrev TP (X:Cx)(pins:bt)(σ:St)(Q:Bool->Hp->Prop)(b:Bool)(s':aE):Prop:=∃H',Inv X pins σ H' s'/\Q b H'
abbrev AP (X:Cx)(pins:bt)(σ:St)(Q:List V->Hp->Prop)(us:ba)(s':aE):Prop:=∃d H',Inv X pins σ H' s'/\Vals d us/\Q d H'
abbrev SP (X:Cx)(pins:bt)(D:Ends)(f:Flow)(s':aE):Prop:=
 match f with
 | .next=>∃d H',Inv X pins d H' s'/\D.nx d H'
 | .brk=>∃d H',Inv X pins d H' s'/\D.bk d H'
 | .cont=>∃d H',Inv X pins d H' s'/\D.ct d H'
 | .ret u=>∃v d H',Inv X pins d H' s'/\RelV v u/\D.rt v H'
abbrev PE (X:Cx)(e:aF)(t:TE):Prop:=
 ∀(pins:bt) (s:aE) (σ:St) (H:Hp) (Q:VK),Inv X pins σ H s->t σ H Q->wpAny (model X.prog X.w) X.A (eval e X.env) (EP X pins σ Q) X.xe s
abbrev PT (X:Cx)(e:aF)(t:TT):Prop:=
 ∀(pins:bt) (s:aE) (σ:St) (H:Hp) (Q:Bool->Hp->Prop),Inv X pins σ H s->t σ H Q->wpAny (model X.prog X.w) X.A (isTrue e X.env<|eval e X.env) (TP X pins σ Q) X.xe s
abbrev PW (X:Cx)(e:aF)(t:TT):Prop:=
 ∀(d:Sem aa) (pins:bt) (s:aE) (σ:St) (H:Hp) (Q:Bool->Hp->Prop),Inv X pins σ H s->t σ H Q->wpAny (model X.prog X.w) X.A (isTrue e X.env d) (TP X pins σ Q) X.xe s
abbrev PA (X:Cx)(es:List aF)(t:TA):Prop:=
 ∀(pos:Pos) (pins:bt) (s:aE) (σ:St) (H:Hp) (Q:List V->Hp->Prop),Inv X pins σ H s->t σ H Q->wpAny (model X.prog X.w) X.A (spliced<|backTo pos<|starEach es X.env) (AP X pins σ Q) X.xe s
abbrev PS (X:Cx)(st:aG)(t:TS):Prop:=
 ∀(pins:bt) (s:aE) (σ:St) (H:Hp) (D:Ends),Inv X pins σ H s->t D σ H->wpAny (model X.prog X.w) X.A (exec st X.env) (SP X pins D) X.xe s
abbrev xB (X:Cx)(st:List aG)(t:TS):Prop:=
 ∀(pins:bt) (s:aE) (σ:St) (H:Hp) (D:Ends),Inv X pins σ H s->t D σ H->wpAny (model X.prog X.w) X.A (execs st X.env) (SP X pins D) X.xe s
def jz{α:Type}{t:Sem α}{Q Q':α->aE->Prop}{A:aC}{E:aa->aE->Prop}(h:wpAny M A t Q E s)(j:∀a s,Q a s->Q' a s):wpAny M A t Q' E s:=dm h j λ_ _ x=>x
section
variable {X:Cx}
abbrev Pp (i:Nat):TE:=λσ H Q=>∃v,σ[i]?=some (some v)/\Q v H
abbrev tC (v:V):TE:=λ_ H Q=>Q v H
def EW{i:Nat}{x:Str}(L:X.N[i]?=some x)(hv:OU X.env.scope x)(hd:(x == ("__debug__" : Str))=false<|>δ)(J:(x == ("__classdict__" : Str))=false<|>δ):PE X (.Name x pos) (Pp i):=by
 w_up;obtain⟨v,e,h⟩:=h;obtain⟨m,hn,j⟩:=I.loc;obtain⟨u,r,l⟩:=j i x v L e hv;have g:EP X pins σ Q u s:=⟨v,H,I,r,h⟩
 rcases l with⟨f,hm⟩|⟨f,c,hc,d⟩
 ·exact wpAny_Name (wpAny_loadName_local I.ok.kind f hn hm g) hd
 ·rcases f with f|f
  ·exact wpAny_Name (wpAny_loadName_cell I.ok.kind f hc d g) hd
  ·exact wpAny_Name (wpAny_loadName_free I.ok.kind f hc d g J) hd
def AJ{i j pos}:PE X (.Constant (.int i) j pos) (tC<|.int i):=λ_ _ _ H _ I h=>wpAny_Constant_int ⟨.int i,H,I.tok _,⟨_,rfl⟩,h⟩
def Pb{b j pos}:PE X (.Constant (.bool b) j pos) (tC<|.bl b):=λ_ _ _ H _ I h=>Constant_bool ⟨.bl b,H,I,rfl,h⟩
abbrev Gl (X:Cx)(x:Str):Prop:=X.env.kindOf x=some .globalImplicit
def AN{E:aa->aE->Prop}{H:Hp}{x:Str}{Q:aa->aE->Prop}(I:Inv X pins σ H s)(hg:Gl X x)(hm:X.mg x=some u)(h:Q u s)
  (hd:(x == ("__debug__" : Str))=false<|>δ):wpAny (model X.prog X.w) X.A (eval (.Name x pos) X.env) Q E s:=
 Calls.Name_function_global I.ok.kind hg (Calls.loadGlobal_global (by rw[I.ok.glob];exact I.mod.glob.keeps I.bk) hm h) hd
def pQ{E:aa->aE->Prop}{H:Hp}{x:Str}{Q:aa->aE->Prop}(I:Inv X pins σ H s)(hg:Gl X x)(hm:X.mg x=none)(hv:bootBuiltins x=some u)(h:Q u s)
  (hn:x ≠ "__name__"<|>δ) (hd:(x == ("__debug__" : Str))=false<|>δ):wpAny (model X.prog X.w) X.A (eval (.Name x pos) X.env) Q E s:=by
 obtain⟨d,h1,h2⟩:=I.mod.blt;exact Calls.Name_function_global I.ok.kind hg (Calls.loadGlobal_builtin (by rw[I.ok.glob];exact I.mod.glob.keeps I.bk) hm (by rw[I.ok.blt];exact h1.keeps I.bk) ((h2 x hn).trans hv) h) hd
def Lh{x:Str}{v:V}(hg:Gl X x)(hm:X.mg x=some u)(r:RelV v u)(hd:(x == ("__debug__" : Str))=false<|>δ):PE X (.Name x pos) (tC v):=
 λ_ _ _ H _ I h=>AN I hg hm ⟨v,H,I,r,h⟩ hd
def JO{x:Str}{v:V}(hg:Gl X x)(hm:X.mg x=none)(hv:bootBuiltins x=some u)(r:RelV v u)(hn:x ≠ "__name__"<|>δ)(hd:(x == ("__debug__" : Str))=false<|>δ):PE X (.Name x pos) (tC v):=
 λ_ _ _ H _ I h=>pQ I hg hm hv ⟨v,H,I,r,h⟩ hn hd
variable {a b:aF}{ta tb:TE}{pos:Pos}
variable {tA tB':TT}{rest:List aF}
abbrev Pf (t u:TT):TT:=λσ H Q=>t σ H λc H1=>if c=true then u σ H1 Q else Q false H1
abbrev Tr (t u:TT):TT:=λσ H Q=>t σ H λc H1=>if c=true then Q true H1 else u σ H1 Q
abbrev Ri (t:TT):TT:=λσ H Q=>t σ H λc H1=>Q (!c) H1
def Jw(j:PT X a tA):PW X (.BoolOp .And [a] pos) tA:=by
 intro wh pins s σ H Q I h;refine isTrue_and (jz (j pins s σ H Q I h) λc d e=>?_)
 cases c with
 | true=>exact isTrue_and_nil e
 | false=>exact e
def OB(j:PT X a tA):PW X (.BoolOp .Or [a] pos) tA:=by
 intro wh pins s σ H Q I h;refine isTrue_or (jz (j pins s σ H Q I h) λc d e=>?_)
 cases c with
 | false=>exact isTrue_or_nil e
 | true=>exact e
def NY(j:PT X a tA)(hb:PW X (.BoolOp .And (b::rest) pos) tB'):PW X (.BoolOp .And (a::b::rest) pos) (Pf tA tB'):=by
 intro wh pins s σ H Q I h;refine isTrue_and (jz (j pins s σ H _ I h) λc f ⟨H1,I1,d⟩=>?_)
 cases c with
 | true=>exact hb wh pins f σ H1 Q I1 d
 | false=>exact⟨H1,I1,d⟩
def QS(j:PT X a tA)(hb:PW X (.BoolOp .Or (b::rest) pos) tB'):PW X (.BoolOp .Or (a::b::rest) pos) (Tr tA tB'):=by
 intro wh pins s σ H Q I h;refine isTrue_or (jz (j pins s σ H _ I h) λc f ⟨H1,I1,d⟩=>?_)
 cases c with
 | true=>exact⟨H1,I1,d⟩
 | false=>exact hb wh pins f σ H1 Q I1 d
def OJ(j:PT X a tA):PT X (.UnaryOp .Not a pos) (Ri tA):=by
 w_up;exact isTrue_not<|j pins s σ H (λc H1=>Q (!c) H1) I h
abbrev OX (ta tb:TE):TE:=λσ H Q=>ta σ H λx H1=>∃c,x=.bl c/\if c=true then tb σ H1 Q else Q (.bl false) H1
abbrev O3 (ta:TE):TE:=λσ H Q=>ta σ H λx H1=>∃c,x=.bl c/\Q (.bl<|!c) H1
def MY{op}{t:TE}(h:PE X a t):PE X (.BoolOp op [a] pos) t:=λpins s σ H Q I hw=>BoolOp_one<|h pins s σ H Q I hw
def ND(j:PE X a ta)(hb:PE X (.BoolOp .And (b::rest) pos) tb):PE X (.BoolOp .And (a::b::rest) pos) (OX ta tb):=by
 w_up;refine BoolOp_and<|jz (j pins s σ H _ I h) λv f ⟨x,H1,I1,r1,d⟩=>?_;obtain⟨c,rfl,d⟩:=d
 cases r1
 refine dJ ?_
 cases c with
 | true=>exact hb pins f σ H1 Q I1 d
 | false=>exact⟨.bl false,H1,I1,rfl,d⟩
def MF(j:PE X a ta):PE X (.UnaryOp .Not a pos) (O3 ta):=by
 w_up;refine UnaryOp_<|jz (j pins s σ H _ I h) λv f ⟨x,H1,I1,r1,d⟩=>?_;obtain⟨c,rfl,d⟩:=d
 cases r1
 exact not_of<|dJ ⟨.bl<|!c,H1,I1,rfl,d⟩
end
abbrev j5 (K:aA)(H:Hp)(a:aq)(xs:List V):Prop:=
 Rd H a (.lst xs) \/
  ∃(o:Obj) (d:Array aa) (n:Nat),K.lookup a=some o/\o.cls=.type "list" /\ o.dict=none/\o.data=.seq d n/\d.size<=sizeLine/\Vals xs d.toList
abbrev l7 (K:aA)(H:Hp)(a:aq)(xs:List V):Prop:=
 Rd H a (.tup xs) \/
  ∃(o:Obj) (d:Array aa) (n:Nat),K.lookup a=some o/\o.cls=.type "tuple" /\ o.dict=none/\o.data=.seq d n/\d.size<=sizeLine/\Vals xs d.toList
abbrev RJ:aa->Option V
 | .none=>some .non
 | .bool b=>some (.bl b)
 | .int i _=>some (.int i)
 | .str x _=>some (.str x)
 | .bytes b _=>some (.byt b)
 | .float b _=>some (.flt b)
 | .ref a=>some (.ref a)
 | .type n=>some (.ty n)
 | _=>none
def RelV.abs{x:V}(r:RelV x u):RJ u=some x:=by
 cases x with
 | non=>cases r;rfl
 | bl _=>cases r;rfl
 | int _=>obtain⟨t,rfl⟩:=r;rfl
 | str _=>obtain⟨t,rfl⟩:=r;rfl
 | byt _=>obtain⟨t,rfl⟩:=r;rfl
 | flt _=>obtain⟨t,rfl⟩:=r;rfl
 | ref _=>cases r;rfl
 | ty _=>cases r;rfl
def RelV.inj{x:V}(r:RelV x u)(q:RelV y u):x=y:=aW<|r.abs.symm.trans q.abs
theorem Vals.inj:∀{xs ys:List V}{us:ba},Vals xs us->Vals ys us->xs=ys
 | _,_,_,.nil,.nil=>rfl
 | _,_,_,.cons r t,.cons d f=>by rw[r.inj d,Vals.inj t f]
section
variable {X:Cx}{pins:bt}{σ:St}{H:Hp}{s:aE}{a:aq}{xs ys:List V}
def j5.of{K:aA}(h:H a=some (.lst xs)):j5 K H a xs:=.inl<|.inl h
def l7.of{K:aA}(h:H a=some (.tup xs)):l7 K H a xs:=.inl<|.inl h
def Inv.list(I:Inv X pins σ H s)(h:j5 X.K H a xs):∃its:ba,Vals xs its/\PlainL s.heap a its.toArray/\xs.length<=sizeLine:=by
 rcases h with h|⟨o,its,n,d,hc,hd,hs,f,r⟩
 ·obtain⟨z,its,n,r,e⟩:=h.ok I.hok;exact⟨its,r,⟨_,n,e,rfl,rfl,rfl⟩,z⟩
 ·refine⟨its.toList,r,⟨o,n,I.xY a o d,hc,hd,by simpa using hs⟩,?_⟩;have e:=r.length;dsimp[b7]at e
  lia
def Inv.tuple(I:Inv X pins σ H s)(h:l7 X.K H a xs):∃its:ba,Vals xs its/\IsTup s.heap a its.toArray/\xs.length<=sizeLine:=by
 rcases h with h|⟨o,its,n,d,hc,_,hs,f,r⟩
 ·obtain⟨z,its,r,p⟩:=h.ok I.hok;exact⟨its,r,p.tup,z⟩
 ·refine⟨its.toList,r,⟨o,I.xY a o d,hc,n,by simpa using hs⟩,?_⟩;have e:=r.length;dsimp[b7]at e
  lia
def Inv.rC(I:Inv X pins σ H s)(h:j5 X.K H a xs)(h':j5 X.K H a ys):xs=ys:=by
 obtain⟨g,r,⟨o,n,e,_,_,d⟩,_⟩:=I.list h;obtain⟨f,m,⟨o',t,j,_,_,k⟩,_⟩:=I.list h';rw[e]at j;cases j;rw[d]at k
 injection k with d1 _
 have:g=f:=by simpa using cA Array.toList d1
 subst this;exact r.inj m
def Inv.wo(I:Inv X pins σ H s)(h:l7 X.K H a xs)(h':l7 X.K H a ys):xs=ys:=by
 obtain⟨g,r,⟨o,e,_,n,d⟩,_⟩:=I.tuple h;obtain⟨f,m,⟨o',j,_,t,k⟩,_⟩:=I.tuple h';rw[e]at j;cases j;rw[d]at k
 injection k with d1 _
 have:g=f:=by simpa using cA Array.toList d1
 subst this;exact r.inj m
end
meta abbrev Cx.vG (X:Cx)(E:aa->aE->Prop):Cx:={ X with xe:=E }
meta abbrev Cx.Pu (X:Cx):Cx:=X.vG λ_ _=>False
def Cx.Ok.vG{X:Cx}(ok:X.Ok)(E:aa->aE->Prop):(X.vG E).Ok:=
 ⟨ok.mod,ok.kind,ok.glob,ok.blt,ok.above,ok.inj,ok.has,ok.cab,ok.hd,ok.frames,ok.stk,ok.exf,ok.bs,ok.bsz,ok.noex,ok.exfs,ok.uM,ok.frf⟩
def Cx.Ok.pT{X:Cx}{E:aa->aE->Prop}(ok:(X.vG E).Ok):X.Ok:=
 ⟨ok.mod,ok.kind,ok.glob,ok.blt,ok.above,ok.inj,ok.has,ok.cab,ok.hd,ok.frames,ok.stk,ok.exf,ok.bs,ok.bsz,ok.noex,ok.exfs,ok.uM,ok.frf⟩
section
variable {X:Cx}{pins:bt}{σ:St}{H:Hp}{s:aE}{E:aa->aE->Prop}
def Inv.vG(I:Inv X pins σ H s)(E:aa->aE->Prop):Inv (X.vG E) pins σ H s:=⟨I.ok.vG E,I.os,I.bare,I.base,I.loc,I.cell,I.free,I.freeC,I.pin,I.hok,I.len⟩
def Inv.pT(I:Inv (X.vG E) pins σ H s):Inv X pins σ H s:=⟨I.ok.pT,I.os,I.bare,I.base,I.loc,I.cell,I.free,I.freeC,I.pin,I.hok,I.len⟩
def SP.pT{f:Flow}(h:SP (X.vG E) pins D f s'):SP X pins D f s':=by
 cases f with
 | next=>obtain⟨d,H',I,q⟩:=h;exact⟨d,H',I.pT,q⟩
 | brk=>obtain⟨d,H',I,q⟩:=h;exact⟨d,H',I.pT,q⟩
 | cont=>obtain⟨d,H',I,q⟩:=h;exact⟨d,H',I.pT,q⟩
 | ret u=>obtain⟨v,d,H',I,r,q⟩:=h;exact⟨v,d,H',I.pT,r,q⟩
def xB.Pu{st:List aG}{t:TS}(h:xB X.Pu st t):xB X st t:=λpins s σ H D I hw=>
 dm (h pins s σ H D (I.vG _) hw) (λ_ _ q=>q.pT) λ_ _ z=>False.elim z
end
section
variable {X:Cx}{st:aG}{rest:List aG}{t u:TS}{e:aF}{te:TE}{pos:Pos}
abbrev Qu:TS:=λD σ H=>D.nx σ H
abbrev Pc (t u:TS):TS:=λD σ H=>t { D with nx:=u D } σ H
def K6:xB X [] Qu:=λ_ _ σ H _ I h=>gv ⟨σ,H,I,h⟩
def IY(h1:PS X st t)(h2:xB X rest u):xB X (st::rest) (Pc t u):=by
 ksr_p;refine wpAny_execs_cons (jz (h1 pins s σ H { D with nx:=u D } I h) λf g q=>?_)
 cases f with
 | next=>
  obtain⟨d,H',j,q⟩:=q;exact h2 pins g d H' D j q
 | ret v=>exact q
 | brk=>exact q
 | cont=>exact q
def Lj(h1:PS X st t):xB X [st] t:=by
 ksr_p;refine wpAny_execs_cons (jz (h1 pins s σ H D I h) λf d q=>?_)
 cases f with
 | next=>exact gv q
 | ret v=>exact q
 | brk=>exact q
 | cont=>exact q
def Inv.quiet{H:Hp}(I:Inv X pins σ H s):interactive X.env=false:=by simp[interactive,I.ok.kind]
abbrev Qj (te:TE):TS:=λD σ H=>te σ H λ_ H1=>D.nx σ H1
def KH(j:PE X e te)(hs:swapsWith e none pos.line X.env=pure false<|>ε):PS X (.Expr e pos) (Qj te):=by
 ksr_p;exact wpAny_Expr_any (jz (j pins s σ H _ I h) λv f ⟨x,H1,I1,r1,d⟩=>⟨σ,H1,I1,d⟩) I.quiet hs
abbrev SG (te:TE):TS:=λD σ H=>te σ H D.rt
def Nm(j:PE X e te):PS X (.Return (some e) pos) (SG te):=by
 ksr_p;exact wpAny_Return_some<|jz (j pins s σ H _ I h) λv f ⟨x,H1,I1,r1,d⟩=>⟨x,σ,H1,I1,r1,d⟩
abbrev Sg (c:TT)(t u:TS):TS:=λD σ H=>c σ H λb H1=>if b=true then t D σ H1 else u D σ H1
def Qa{a:List aG}{tc:TT}(hc:PT X c tc)(j:xB X a t)(hb:xB X b u):PS X (.If c a b pos) (Sg tc t u):=by
 ksr_p;refine wpAny_If (jz (hc pins s σ H _ I h) λd f ⟨H1,I1,g⟩=>?_)
 cases d with
 | true=>exact j pins f σ H1 D I1 g
 | false=>exact hb pins f σ H1 D I1 g
abbrev Oc:TS:=λ_ _ _=>False
def EU:PS X st Oc:=λ_ _ _ _ _ _ h=>h.elim
end
meta abbrev TG:=V->St->Hp->(St->Hp->Prop)->Prop
meta abbrev Lx:=List V->St->Hp->(St->Hp->Prop)->Prop
abbrev PG (X:Cx)(j:aF)(t:TG):Prop:=
 ∀(pins:bt) (s:aE) (σ:St) (H:Hp) (v:V) (u:aa) (Q:St->Hp->Prop),Inv X pins σ H s->RelV v u->t v σ H Q ->
  wpAny (model X.prog X.w) X.A (assign j X.env u) (λ_ s'=>∃d H',Inv X pins d H' s'/\Q d H') X.xe s
abbrev Pq (X:Cx)(ts:List aF)(t:Lx):Prop:=
 ∀(pins:bt) (s:aE) (σ:St) (H:Hp) (f:List V) (us:ba) (Q:St->Hp->Prop),Inv X pins σ H s->Vals f us->t f σ H Q ->
  wpAny (model X.prog X.w) X.A (assignInOrder ((assignEach ts X.env).map (·.2)) us) (λ_ s'=>∃d H',Inv X pins d H' s'/\Q d H') X.xe s
meta abbrev FW:=V->V->V->Hp->(Hp->Prop)->Prop
abbrev Ja (X:Cx)(t:FW):Prop:=
 ∀(pins:bt) (s:aE) (σ:St) (H:Hp) (o i v:V) (d f u:aa) (Q:Hp->Prop),Inv X pins σ H s->RelV o d->RelV i f->RelV v u->t o i v H Q ->
  wpAny (model X.prog X.w) X.A (setItem d f u) (λ_ s'=>∃H',Inv X pins σ H' s'/\Q H') X.xe s
meta abbrev OY:=V->V->Hp->VK->Prop
abbrev OT (X:Cx)(j:Operator)(t:OY):Prop:=
 ∀(pins:bt) (s:aE) (σ:St) (H:Hp) (x y:V) (v u:aa) (Q:VK),Inv X pins σ H s->RelV x v->RelV y u->t x y H Q ->
  wpAny (model X.prog X.w) X.A (inplaceOp j v u) (EP X pins σ Q) X.xe s
section
variable {X:Cx}{pos:Pos}
abbrev CF (i:Nat):TG:=λv σ H Q=>Q (σ.set i<|some v) H
def xJ{i:Nat}{x:Str}(j:X.N.Nodup)(hi:X.N[i]?=some x)(hx:Loc X.env.scope x)(hf:X.fn x=true\/X.env.scope.names.lookup x=some .local<|>γ):PG X (.Name x pos) (CF i):=by
 intro pins s σ H v u Q I r h;exact wpAny_assign_Name<|vt I j hi hx r (λs' d=>⟨_,H,d,h⟩) hf
abbrev RC:Lx:=λd σ H Q=>d=[]/\Q σ H
abbrev PN (t:TG)(u:Lx):Lx:=λf σ H Q=>∃v r,f=v::r/\t v σ H λd H'=>u r d H' Q
def JC:Pq X [] RC:=by
 intro pins s σ H d us Q I r h;obtain⟨e,h⟩:=h;subst e
 cases r
 exact assignInOrder_nil ⟨σ,H,I,h⟩
def Fx{t:TG}{u:Lx}(h1:PG X e t)(h2:Pq X es u)
  (hs:(assignEach (e::es) X.env).map (·.2)=assign e X.env::(assignEach es X.env).map (·.2)<|>ε):Pq X (e::es) (PN t u):=by
 intro pins s σ H k us Q I r h;obtain⟨v,m,e1,h⟩:=h;subst e1
 cases r with
 | cons r j=>
  rw[hs];refine assignInOrder_cons<|jz (h1 pins s σ H _ _ _ I r h) λ_ f ⟨d,H1,I1,g⟩=>?_;exact h2 pins f d H1 _ _ Q I1 j g
abbrev RV (K:aA)(n:Nat)(t:Lx):TG:=λv σ H Q=>∃a xs,v=.ref a/\l7 K H a xs/\xs.length=n/\t xs σ H Q
def Oi{k:Nat}{t:Lx}{n:Nat}(hc:X.calm=true)(h:Pq X es t)
  (hn:(assignEach es X.env).length=n<|>ε) (J:(assignEach es X.env).findIdx? (·.1)=none<|>ε):PG X (.Tuple es k pos) (RV X.K n t):=by
 intro pins s σ H v u Q I r hw;obtain⟨a,xs,e1,m,j,hw⟩:=hw;subst e1
 cases r
 obtain⟨f,d,g,z⟩:=I.tuple m;refine assign_Tuple_tuple (I.ok.hd hc) g (by simp[hn,<- j,d.length]) J λh' hx=>?_;have I1:Inv X pins σ H { s with heap:=h' }:=I.kept (t':=s.toks) λb o e=>hx b o (bB<|aZ e) e;exact h pins _ σ H xs _ Q I1 (by simpa using d) hw
abbrev Rq (to j:TE)(t:FW):TG:=λv σ H Q=>to σ H λo H1=>j σ H1 λi H2=>t o i v H2 λd=>Q σ d
def Hu{to J:TE}{t:FW}(L:PE X o to)(hi:PE X i J)(hs:Ja X t)
  (M:(∀v,assign (.Subscript o i pos) X.env v=(do
   let ov <- holding [v] (eval o X.env)
   let iv <- holding [v,ov] (eval i X.env)
   standAt pos
   holding [v,ov,iv] (setItem ov iv v)
   release [v,ov,iv] []))<|>ζ):PG X (.Subscript o i pos) (Rq to J t):=by
 intro pins s σ H v u Q I r h;rw[M];refine aJ<|cP<|jz (L pins s σ H _ I h) λov g ⟨x,H1,I1,r1,k⟩=>?_;refine aJ<|cP<|jz (hi pins g σ H1 _ I1 k) λiv d ⟨y,H2,m,r2,j⟩=>?_;refine aJ<|bY<|aJ<|cP<|jz (hs pins d σ H2 x y v ov iv u _ m r1 r2 r j) λ_ B ⟨z,I3,f⟩=>?_;exact wpAny_release ⟨σ,z,I3,f⟩
abbrev F_ (te:TE)(g:TG):TS:=λD σ H=>te σ H λx H1=>g x σ H1 D.nx
def NV{tg:aF}{te:TE}{g:TG}(J:PE X e te)(hg:PG X tg g)(hs:swapsWithSole [tg] e pos.line X.env=pure false<|>ε)(hw:swappedStores [tg] e X.env=pure none<|>ε)
  (h1:(assignEach [tg] X.env).map (·.2)=[assign tg X.env]<|>ε):PS X (.Assign [tg] e pos) (F_ te g):=by
 ksr_p;refine wpAny_Assign_stores (jz (J pins s σ H _ I h) λv d ⟨x,H1,I1,r1,f⟩=>?_) hs hw;rw[h1];exact jz (hg pins d σ H1 x v _ I1 r1 f) λ_ j q=>q
def Oz{i:Nat}{x:Str}{te:TE}(J:X.N.Nodup)(hi:X.N[i]?=some x)(hx:Loc X.env.scope x)(L:PE X e te)(hs:(swapsWith e (some<|.Name x pos') pos.line X.env=pure false)<|>ε)(hf:X.fn x=true\/X.env.scope.names.lookup x=some .local<|>γ) :
  PS X (.Assign [.Name x pos'] e pos) (F_ te<|CF i):=by
 ksr_p;refine wpAny_Assign_Name (jz (L pins s σ H _ I h) λv g ⟨y,H1,I1,r1,d⟩=>?_) hs;exact vt I1 J hi hx r1 (λj f=>⟨_,H1,f,d⟩) hf
abbrev Sj (i:Nat)(te:TE)(j:OY):TS:=λD σ H=>∃x,σ[i]?=some (some x)/\te σ H λy H1=>j x y H1 λz H2=>D.nx (σ.set i<|some z) H2
def NS{i:Nat}{x:Str}{te:TE}{U:OY}(Z:X.N.Nodup)(hi:X.N[i]?=some x)(hx:Loc X.env.scope x)(he:PE X e te)(ho:OT X op U)(hf:X.fn x=true\/X.env.scope.names.lookup x=some .local<|>γ) :
  PS X (.AugAssign (.Name x pos') op e pos) (Sj i te U):=by
 ksr_p;obtain⟨v,e1,h⟩:=h;obtain⟨m,hn,K⟩:=I.loc;have t:OU X.env.scope x:=by rcases hx with k|k;exact .inl k;exact .inr (.inl k)
 obtain⟨u,r,l⟩:=K i x v hi e1 t;refine wpAny_AugAssign_Name ?_;have B:wpAny (model X.prog X.w) X.A (eval e X.env) (λw g=>wpAny (model X.prog X.w) X.A (inplaceOp op u w) (λr j=>wpAny (model X.prog X.w) X.A (storeName X.env x r) (λ_=>SP X pins D .next) X.xe j) X.xe g) X.xe s:=by
  refine jz (he pins s σ H _ I h) λw C ⟨y,H1,I1,r1,G⟩=>?_;refine jz (ho pins C σ H1 v y u w _ I1 r r1 G) λz L ⟨O,H2,J,r2,F⟩=>?_;exact vt J Z hi hx r2 (λM I3=>⟨_,H2,I3,F⟩) hf
 rcases l with⟨d,hm⟩|⟨d,c,hc,f⟩
 ·exact wpAny_loadName_local I.ok.kind d hn hm B
 ·rcases d with d|d
  ·exact wpAny_loadName_cell I.ok.kind d hc f B
  ·rcases hx with k|k
   ·have:X.env.scope.names.lookup x=some .free:=d;rw[k]at this;cases this
   ·have:X.env.scope.names.lookup x=some .free:=d;rw[k]at this;cases this
abbrev SX (f:Int->Int->Int):OY:=λx y H Q=>∃i j,x=.int i/\y=.int j/\Q (.int<|f i j) H
def NW:OT X .Add (SX λi j=>i+j):=by
 intro pins s σ H x y v u Q I r1 r2 h;obtain⟨i,j,e1,e2,q⟩:=h;subst e1;subst e2;obtain⟨t,rfl⟩:=r1;obtain⟨d,rfl⟩:=r2;exact iadd_int ⟨.int _,H,I.tok _,⟨_,rfl⟩,q⟩
def MV:OT X .Sub (SX λi j=>i-j):=by
 intro pins s σ H x y v u Q I r1 r2 h;obtain⟨i,j,e1,e2,q⟩:=h;subst e1;subst e2;obtain⟨t,rfl⟩:=r1;obtain⟨d,rfl⟩:=r2;exact isub_int ⟨.int _,H,I.tok _,⟨_,rfl⟩,q⟩
end
section
variable {X:Cx}{pos:Pos}
abbrev G9 (c:TT)(tb:TS):TS:=λD σ H=>∃W:Nat->St->Hp->Prop,(∃m,W m σ H)/\∀m σ H,W m σ H ->
 c σ H λb H1=>if b=true then ∃N:St->Hp->Prop,(∀d H',N d H'->∃m',m'<m/\W m' d H')/\tb { D with nx:=N,ct:=N,bk:=D.nx } σ H1 else D.nx σ H1
def IK{tc:TT}{tb:TS}(hp:PassesOwn (model X.prog X.w) X.A X.env X.xe)(hc:PT X c tc)(hb:xB X body tb):PS X (.While c body [] pos) (G9 tc tb):=by
 ksr_p;obtain⟨W,⟨K,L⟩,k⟩:=h;refine wpAny_While<|codeAny_whileLoop (λn s'=>∃j H',Inv X pins j H' s'/\W n j H') ?_ K ⟨σ,H,I,L⟩;rintro n O ⟨g,H1,I1,M⟩;refine dF hp (jz (hc pins O g H1 _ I1<|k n g H1 M) λb J ⟨H2,G,z⟩=>?_)
 cases b with
 | true=>
  obtain⟨N,F,z⟩:=z;rw[aS rfl];refine dF hp (jz (hb pins J g H2 _ G z) λf P t=>?_)
  cases f with
  | next=>
   obtain⟨d,m,I3,C⟩:=t;obtain⟨m',hm,B⟩:=F d m C;exact⟨m',hm,d,m,I3,B⟩
  | cont=>
   obtain⟨d,m,I3,C⟩:=t;obtain⟨m',hm,B⟩:=F d m C;exact⟨m',hm,d,m,I3,B⟩
  | brk=>exact t
  | ret v=>exact t
 | false=>
  rw[aU bg];exact gv ⟨g,H2,G,z⟩
end
structure It where
 go:Nat->Hp->Prop
 yld:Nat->Hp->V->Hp->Prop
 stop:Nat->Hp->Prop
abbrev m9 (X:Cx)(pins:bt)(H:Hp)(b:aq):Prop:=
 H b=none/\b≠X.env.locals/\b∉X.fs/\(b∈X.ex\/X.s₀.heap.objs.size<=b)/\(∀x c,X.env.cells.lookup x=some c->c≠b)/\∀p∈X.pn++pins,p.1≠b
def Inv.vq{H H':Hp}{s:aE}(I:Inv X pins σ H s)(hb:s.heap.objs.size<=b)(hn:H' b=none):m9 X pins H' b:=by
 refine⟨hn,ir<|bN I.lt hb,I.RU hb,.inr<|bC I.sz hb,λx c e z=>?_,λp hp z=>?_⟩
 ·obtain⟨v,q⟩:=I.cell x c e;exact absurd (bN q.lt<|by rw[z];exact hb) (fu _)
 ·exact absurd (bN (aZ (I.pin p hp).1)<|by rw[z];exact hb)<|fu _
structure Turn (P:ah)(w:af)(K:aA)(tg:aF)(J:It)(fp:bd)(it:aq)(tn:Nat->au->Prop):Prop where
 mem:it∈fp
 obj:∀i h,tn i h->∀b∈fp,∃o,h.get? b=some o/\∀v,o.data≠.cell v
 keep:∀i h h',tn i h->(∀b∈fp,∀o,h.get? b=some o->h'.get? b=some o)->tn i h'
 item:∀(X:Cx),X.prog=P->X.w=w->X.K=K->X.calm=true->∀(i:Nat) (pins:bt) (s:aE) (σ:St) (H:Hp) (E:aa->aE->Prop),Inv X pins σ H s->(∀b∈fp,m9 X pins H b)->tn i s.heap->J.go i H ->
  wpAny (model P w) X.A (pyNext<|.ref it) (λr s1=>∃u,r=some u /\
   wpAny (model P w) X.A (letOwnedTupleGo tg (.ref it) u) (λ_ s2=>∃x H',Inv X pins σ H' s2/\RelV x u/\J.yld i H x H'/\tn (i+1) s2.heap/\∀b∈fp,H' b=none) E s1) E s
 done:∀(X:Cx),X.prog=P->X.w=w->X.K=K->X.calm=true->∀(i:Nat) (pins:bt) (s:aE) (σ:St) (H:Hp) (E:aa->aE->Prop),Inv X pins σ H s->(∀b∈fp,m9 X pins H b)->tn i s.heap->J.stop i H ->
  wpAny (model P w) X.A (pyNext<|.ref it) (λr s1=>r=none/\Inv X pins σ H s1) E s
 self:∀(A:aC) (i:Nat) (s:aE) (Q:aa->aE->Prop) (E:aa->aE->Prop),tn i s.heap->Q (.ref it) s->wpAny (model P w) A (pyIter<|.ref it) Q E s
meta abbrev TI:=St->Hp->(It->Hp->Prop)->Prop
abbrev Si (X:Cx)(pins:bt)(σ:St)(tg:aF)(R:It->Hp->Prop)(j:aa)(L:aE):Prop:=
 ∃(it:aq) (fp:bd) (d:Nat->au->Prop) (J:It) (H':Hp),j=.ref it/\Inv X pins σ H' L/\Turn X.prog X.w X.K tg J fp it d/\d 0 L.heap/\(∀b∈fp,m9 X pins H' b)/\R J H'
abbrev PI (X:Cx)(tg iter:aF)(j:TI):Prop:=
 ∀(pins:bt) (s:aE) (σ:St) (H:Hp) (R:It->Hp->Prop),Inv X pins σ H s->j σ H R ->
  wpAny (model X.prog X.w) X.A (eval iter X.env) (λv d=>wpAny (model X.prog X.w) X.A (pyIter v) (Si X pins σ tg R) X.xe d) X.xe s
def wD{A:aC}{E:aa->aE->Prop}{s:aE}{o:Obj}{n:String}{Q:Unit->aE->Prop}(J:s.heap.get? it=some o)(hc:o.cls=.type n)(hd:o.data=.fields vs)
  (hn:["enumerate", "zip", "dict_itemiterator", "dict_reverseitemiterator", "odict_iterator", "itertools.zip_longest", "itertools.pairwise"].contains n=false) (j:Q Unit.unit s):wpAny M A (letOwnedTupleGo tg (.ref it) u) Q E s:=by
 unfold letOwnedTupleGo
 cases tg<;>first
  | exact aP j
  | (cases u<;>first
    | exact aP j
    | (refine aJ (wpAny_load J ?_)
       rw[hc,hd];show wpAny M A (if (["enumerate", "zip", "dict_itemiterator", "dict_reverseitemiterator", "odict_iterator", "itertools.zip_longest", "itertools.pairwise"].contains n && vs[0]? == some (rawInt _))=true then _ else _) Q E s;rw[aU<|by intro h;rw[hn,Bool.false_and]at h;cases h];exact aP j))
abbrev QY (K:aA)(a:aq):It:=
 ⟨λi H=>∃xs x,j5 K H a xs/\xs[i]?=some x,λi H x H'=>H'=H/\∀xs,j5 K H a xs->xs[i]?=some x,λi H=>∃xs,j5 K H a xs/\xs.length<=i⟩
abbrev OS (K:aA)(a:aq):It:=
 ⟨λi H=>∃xs x,l7 K H a xs/\xs[i]?=some x,λi H x H'=>H'=H/\∀xs,l7 K H a xs->xs[i]?=some x,λi H=>∃xs,l7 K H a xs/\xs.length<=i⟩
abbrev Pz (lo:Int)(n:Nat):It:=⟨λi _=>i<n,λi H x H'=>H'=H/\x=.int (lo+i),λi _=>n<=i⟩
def Ep{P:ah}{w:af}{K:aA}(a it:aq):Turn P w K tg (QY K a) [it] it (λi h=>h.IsListIter it a i) where
 mem:=by simp
 obj:=λi h st b hb=>by
  have e:b=it:=by simpa using hb
  subst e;obtain⟨o,e,c,d⟩:=st;exact⟨o,e,λv z=>by rw[d]at z;cases z⟩
 keep:=λi h h' st k=>st.at λo e=>k it (by simp) o e
 item:=by
  room;subst hP hw hK;obtain⟨xs,x,g,hx⟩:=hg;obtain⟨j,m,p,F⟩:=I.list g;obtain⟨u,G,B⟩:=m.get hx;fin2;refine wpAny_pyNext_list_item st p.isList (x:=u) (by simpa using G) λh' f t=>?_;have I1:Inv X pins σ H { s with heap:=h' }:=I.turned (t':=s.toks) (λb o hb e=>(t.2 b hb).trans e) f0 f1 f3 f4 f5;obtain⟨o,e,c,d⟩:=id f;exact⟨u,rfl,wD (s:={ s with heap:=h' }) e c d ⋯ ⟨x,H,I1,B,⟨rfl,λys hy=>by rw[I.rC hy g];exact hx⟩,f,λb hb=>(hf b hb).1⟩⟩
 done:=by
  room;subst hP hw hK;obtain⟨xs,g,hx⟩:=hg;obtain⟨j,m,p,F⟩:=I.list g;fin2;have J:=m.length;exact wpAny_pyNext_list_end (I.ok.hd hc) st p.isList (by simp;omega) λh' C=>⟨rfl,I.turned (t':=s.toks) (λb o hb e=>C b o hb e) f0 f1 f3 f4 f5⟩
 self:=λ_ _ _ _ _ st h=>wpAny_pyIter_listiter st h
def Ay{P:ah}{w:af}{K:aA}(a it:aq):Turn P w K tg (OS K a) [it] it (λi h=>h.IsTupleIter it a i) where
 mem:=by simp
 obj:=λi h st b hb=>by
  have e:b=it:=by simpa using hb
  subst e;obtain⟨o,e,c,d⟩:=st;exact⟨o,e,λv z=>by rw[d]at z;cases z⟩
 keep:=λi h h' st k=>st.at λo e=>k it (by simp) o e
 item:=by
  room;subst hP hw hK;obtain⟨xs,x,j,hx⟩:=hg;obtain⟨f,m,p,F⟩:=I.tuple j;obtain⟨u,G,B⟩:=m.get hx;fin2;refine wpAny_pyNext_tuple_item st (show s.heap.IsTuple a f.toArray from p) (x:=u) (by simpa using G) λh' g t=>?_;have I1:Inv X pins σ H { s with heap:=h' }:=I.turned (t':=s.toks) (λb o hb e=>(t.2 b hb).trans e) f0 f1 f3 f4 f5;obtain⟨o,e,c,d⟩:=id g;exact⟨u,rfl,wD (s:={ s with heap:=h' }) e c d ⋯ ⟨x,H,I1,B,⟨rfl,λys hy=>by rw[I.wo hy j];exact hx⟩,g,λb hb=>(hf b hb).1⟩⟩
 done:=by
  room;subst hP hw hK;obtain⟨xs,j,hx⟩:=hg;obtain⟨f,m,p,F⟩:=I.tuple j;fin2;have J:=m.length;exact wpAny_pyNext_tuple_end (I.ok.hd hc) st (show s.heap.IsTuple a f.toArray from p) (by simp;omega) λh' C=>⟨rfl,I.turned (t':=s.toks) (λb o hb e=>C b o hb e) f0 f1 f3 f4 f5⟩
 self:=λ_ _ _ _ _ st h=>wpAny_pyIter_tupleiter st h
def z7{P:ah}{w:af}{K:aA}(it:aq)(lo:Int)(n:Nat):Turn P w K tg (Pz lo n) [it] it (λi h=>IsRangeIter h it (lo+(i:Nat) * 1) ((n:Int)-(i:Nat)) 1) where
 mem:=by simp
 obj:=λi h st b hb=>by
  have e:b=it:=by simpa using hb
  subst e;exact⟨_,st,λv z=>by
   have g:Data.fields _=Data.cell v:=z
   cases g⟩
 keep:=λi h h' st k=>k it (by simp) _ st
 item:=by
  room;subst hP hw hK;fin2;have W:=Walks.range (prog:=X.prog) (w:=X.w) (I.ok.hd hc) it lo 1 n;refine W.item i s _ _ hg st λv h' f hv d j=>?_;obtain⟨t,rfl⟩:=hv;have I1:Inv X pins σ H { s with heap:=h',toks:=f }:=I.turned (λb o hb e=>j b o (by simpa using hb) e) f0 f1 f3 f4 f5;refine⟨_,rfl,wD (s:={ s with heap:=h',toks:=f }) (n := "range_iterator") d rfl rfl ⋯ ⟨.int<|lo+i,H,I1,⟨t,?_⟩,⟨rfl,rfl⟩,d,λb hb=>(hf b hb).1⟩⟩;rw[Int.mul_one]
 done:=by
  room;subst hP hw hK;fin2;exact wpAny_pyNext_range_end (I.ok.hd hc) st (by have:n<=i:=hg;lia) λh' m=>⟨rfl,I.turned (t':=s.toks) (λb o hb e=>m b o hb e) f0 f1 f3 f4 f5⟩
 self:=λ_ _ _ _ _ st h=>wpAny_pyIter_rangeiter st h
section
variable {X:Cx}{tg:aF}
abbrev Qs (K:aA)(tl:TE):TI:=λσ H R=>tl σ H λx H1=>∃a,x=.ref a/\(∃xs,j5 K H1 a xs)/\R (QY K a) H1
abbrev Rx (K:aA)(tl:TE):TI:=λσ H R=>tl σ H λx H1=>∃a,x=.ref a/\(∃xs,l7 K H1 a xs)/\R (OS K a) H1
def CD{tl:TE}(J:PE X l tl):PI X tg l (Qs X.K tl):=by
 intro pins s σ H R I h;refine jz (J pins s σ H _ I h) λv d ⟨x,H1,I1,r1,g⟩=>?_;obtain⟨a,e,⟨xs,j⟩,q⟩:=g;subst e
 cases r1
 obtain⟨f,m,p,k⟩:=I1.list j;refine wpAny_pyIter_list p.isList ?_;refine⟨d.heap.objs.size,[d.heap.objs.size],_,_,H1,rfl,I1.kept (t':=d.toks) λb o e=>aQ _ e,Ep a _,⟨_,bJ _ rfl,rfl,rfl⟩,λb hb=>?_,q⟩;have e:b=d.heap.objs.size:=by simpa using hb
 subst e;cb_eq
def G1{tl:TE}(J:PE X l tl):PI X tg l (Rx X.K tl):=by
 intro pins s σ H R I h;refine jz (J pins s σ H _ I h) λv d ⟨x,H1,I1,r1,g⟩=>?_;obtain⟨a,e,⟨xs,j⟩,q⟩:=g;subst e
 cases r1
 obtain⟨f,m,p,k⟩:=I1.tuple j;refine wpAny_pyIter_tuple (show d.heap.IsTuple a f.toArray from p) ?_;refine⟨d.heap.objs.size,[d.heap.objs.size],_,_,H1,rfl,I1.kept (t':=d.toks) λb o e=>aQ _ e,Ay a _,⟨_,bJ _ rfl,rfl,rfl⟩,λb hb=>?_,q⟩;have e:b=d.heap.objs.size:=by simpa using hb
 subst e;cb_eq
def zE{H:Hp}{s:aE}{R:It->Hp->Prop}{E:aa->aE->Prop}{lo hi:Int}{t v:Tok}{tk:Nat}(I:Inv X pins σ H s)(h1:-(2 ^ 62)<=lo)(h2:lo<2 ^ 62)(j:-(2 ^ 62)<=hi)(J:hi<2 ^ 62)
  (q:R (Pz lo (hi-lo).toNat) H):wpAny (model X.prog X.w) X.A (pyIter<|.ref s.heap.objs.size) (Si X pins σ tg R) E { s with heap:=s.heap.push { cls:=.type "range",data:=.fields #[.int lo t,.int hi u,.int 1 v]},toks:=tk }:=by
 refine wpAny_pyIter_range (IsRange.new ..) (small_one h1 h2 j J) ?_;have I1:Inv X pins σ H { s with heap:=s.heap.push { cls:=.type "range",data:=.fields #[.int lo t,.int hi u,.int 1 v]},toks:=tk }:=I.kept λb o e=>aQ _ e;refine⟨(s.heap.push { cls:=.type "range",data:=.fields #[.int lo t,.int hi u,.int 1 v]}).objs.size,[(s.heap.push { cls:=.type "range",data:=.fields #[.int lo t,.int hi u,.int 1 v]}).objs.size],_,_,H,rfl,
  I1.kept (t':=tk) λb o e=>aQ _ e,z7 _ lo (hi-lo).toNat,?_,λb hb=>?_,q⟩
 ·have e1:lo+((0:Nat):Int) * 1=lo:=by simp
  have e2:(((hi-lo).toNat:Nat):Int)-((0:Nat):Int)=Builtin.Range.rangeSize lo hi 1:=by rw[rangeSize_one];split<;>lia
  skip
  rw[e1,e2];exact bJ _ rfl
 ·have e:b=(s.heap.push { cls:=.type "range",data:=.fields #[.int lo t,.int hi u,.int 1 v]}).objs.size:=by simpa using hb
  subst e;cb_eq
abbrev qk (ta:TA):TI:=λσ H R=>ta σ H λd H1=>∃j:Int,d=[.int j]/\-(2 ^ 62)<=j/\j<2 ^ 62/\R (Pz 0 j.toNat) H1
abbrev uX (ta:TA):TI:=λσ H R=>ta σ H λd H1=>∃i j:Int,d=[.int i,.int j]/\(-(2 ^ 62)<=i/\i<2 ^ 62/\-(2 ^ 62)<=j/\j<2 ^ 62)/\R (Pz i (j-i).toNat) H1
def DT{a:aF}{ta:TA}{p:Pos}(hg:Gl X "range")(hm:X.mg "range" = none)(J:PA X [a] ta)(hs:starEach [a] X.env=[(false,eval a X.env)]<|>ε):PI X tg (.Call (.Name "range" p) [a] [] pos) (qk ta):=by
 intro pins s σ H R I h;refine Call_<|pQ I hg hm boot_range<|cJ (jz (J pos pins s σ H _ I h) λus m ⟨k,H1,I1,r1,d⟩=>?_) hs rfl;obtain⟨j,e,d,g,q⟩:=d;subst e
 cases r1 with
 | cons r f=>
  cases f
  obtain⟨t,rfl⟩:=r;exact call_range_1<|zE I1 () () d g<|by simpa using q
def Eo{a b:aF}{ta:TA}{p:Pos}(hg:Gl X "range")(hm:X.mg "range" = none)(L:PA X [a,b] ta)(hs:starEach [a,b] X.env=[(false,eval a X.env),(false,eval b X.env)]<|>ε)(J:starEach [b] X.env=[(false,eval b X.env)]<|>ε) :
  PI X tg (.Call (.Name "range" p) [a,b] [] pos) (uX ta):=by
 intro pins s σ H R I h;refine Call_ (pQ I hg hm boot_range<|cJ (jz (L pos pins s σ H _ I h) λus C ⟨F,H1,I1,r1,d⟩=>?_) (by rw[hs,J])<|by rw[J];rfl);obtain⟨i,j,e,⟨d,m,g,z⟩,q⟩:=d;subst e
 cases r1 with
 | cons r f=>
  cases f with
  | cons k f=>
   cases f
   obtain⟨t,rfl⟩:=r;obtain⟨B,rfl⟩:=k;exact call_range_2<|zE I1 d m g z q
abbrev SJ (j:TI)(g:TG)(tb:TS):TS:=λD σ H=>j σ H λJ H1=>∃W:Nat->Nat->St->Hp->Prop,(∃m,W 0 m σ H1)/\∀i m σ H,W i m σ H ->
 (J.stop i H/\D.nx σ H)\/(J.go i H/\∃N:St->Hp->Prop,(∀d H',N d H'->∃m',m'<m/\W (i+1) m' d H')/\∀x H',J.yld i H x H'->g x σ H' λf H2=>tb { D with nx:=N,ct:=N,bk:=D.nx } f H2)
abbrev oQ (fp:bd)(h:au):bt:=fp.filterMap λb=>(h.get? b).map λo=>(b,o)
def jk{fp:bd}{h:au}{b:aq}(hb:b∈fp)(e:h.get? b=some o):(b,o)∈oQ fp h:=List.mem_filterMap.mpr ⟨b,hb,by rw[e];rfl⟩
def DY{fp:bd}{h:au}{p:aq×Obj}(hp:p∈oQ fp h):p.1∈fp/\h.get? p.1=some p.2:=by
 obtain⟨b,hb,e⟩:=List.mem_filterMap.mp hp
 cases q:h.get? b with
 | none=>rw[q]at e;cases e
 | some o=>
  rw[q]at e;have d:(b,o)=p:=aW e;subst d;exact⟨hb,q⟩
def Inv.pinned{H:Hp}{s:aE}{fp:bd}(I:Inv X pins σ H s)(hf:∀b∈fp,m9 X pins H b)(j:∀b∈fp,∃o,s.heap.get? b=some o/\∀v,o.data≠.cell v):Inv X (pins++oQ fp s.heap) σ H s:=
 I.B7 λp hp=>(bA.mp hp).elim (λz=>I.pin p<|aT _ z) λz=>by
  obtain⟨hb,e⟩:=DY z;obtain⟨f0,f1,f2,_⟩:=hf p.1 hb;obtain⟨o,f,d⟩:=j p.1 hb;rw[e]at f;cases f;exact⟨e,f0,f1,f2,d⟩
def Inv.ku{H:Hp}(I:Inv X (pins++pl) σ H s):Inv X pins σ H s:=I.B7 λp hp=>I.pin p<|aT _<|dI _ hp
def N4{iter:aF}{wi:TI}{g:TG}{tb:TS}(hp:PassesOwn (model X.prog X.w) X.A X.env X.xe)(hc:X.calm=true)(hi:PI X tg iter wi)(hg:PG X tg g)(hb:xB X body tb)
  (hs:(∀x,foldedSetIterable iter X.env x=pure x)<|>ζ):PS X (.For tg iter body [] pos) (SJ wi g tb):=by
 ksr_p;refine wpAny_For (jz (hi pins s σ H _ I h) λv s1 h1=>jz h1 λitv s2 h2=>?_) hs;obtain⟨it,fp,tn,J,H2,e,I2,T,P,f2,W,⟨m0,w0⟩,F⟩:=h2;subst e;have stat:∀{H':Hp},(∀b∈fp,H' b=none)->∀b∈fp,m9 X pins H' b:=λhn b hb=>⟨hn b hb,(f2 b hb).2⟩;refine codeAny_forLoop_any (λn s'=>∃i k H',Inv X pins k H' s'/\tn i s'.heap/\(∀b∈fp,H' b=none)/\W i n k H') ?_ m0 ⟨0,σ,H2,I2,P,λb hb=>(f2 b hb).1,w0⟩;rintro n Z ⟨i,t,O,I3,K,M,w3⟩
 rcases F i n t O w3 with⟨L,qn⟩|⟨go,N,hN,step⟩
 ·refine dF hp<|jz (T.done X rfl rfl rfl hc i pins Z t O X.xe I3 (stat M) K L) λr s4 ⟨hr,I4⟩=>?_;subst hr;exact gv ⟨t,O,I4,qn⟩
 ·refine dF hp<|jz (T.item X rfl rfl rfl hc i pins Z t O X.xe I3 (stat M) K go) λr s4 ⟨u,hr,h4⟩=>?_;subst hr;refine dF hp<|jz h4 λ_ s5 ⟨x,H5,I5,r5,y5,C,Y⟩=>?_;have U:=I5.pinned (stat Y)<|T.obj _ _ C;refine dF hp<|jz (hg _ s5 t H5 x u _ U r5<|step x H5 y5) λ_ s6 ⟨V,H6,I6,q6⟩=>?_;refine dF hp<|jz (hb _ s6 V H6 _ I6 q6) λf s7 B=>?_;have z:∀{j:St} {H7:Hp},Inv X (pins++oQ fp s5.heap) j H7 s7->N j H7->∃m,m<n/\∃i k H',Inv X pins k H' s7/\tn i s7.heap/\(∀b∈fp,H' b=none)/\W i m k H':=λ{j H7} I7 G=>by
   obtain⟨m',hm,w7⟩:=hN j H7 G;refine⟨m',hm,i+1,j,H7,I7.ku,T.keep _ _ _ C λb hb o e=>(I7.pin (b,o)<|aT _<|aT _<|jk hb e).1,λb hb=>?_,w7⟩;obtain⟨o,e,d⟩:=T.obj _ _ C b hb;exact(I7.pin (b,o)<|aT _<|aT _<|jk hb e).2.1
  cases f with
  | next=>obtain⟨j,H7,I7,G⟩:=B;exact z I7 G
  | cont=>obtain⟨j,H7,I7,G⟩:=B;exact z I7 G
  | brk=>obtain⟨j,H7,I7,B⟩:=B;exact⟨j,H7,I7.ku,B⟩
  | ret v=>obtain⟨x7,j,H7,I7,r7,B⟩:=B;exact⟨x7,j,H7,I7.ku,r7,B⟩
end
def CQ{K:aA}{a:aq}{xs:List V}{g:TG}{tb:TS}{D:Ends}{H:Hp}(j:Nat->St->Hp->Prop)(h0:j 0 σ H)(J:∀i σ H,i<=xs.length->j i σ H->l7 K H a xs)
  (hs:∀i x σ H,xs[i]?=some x->j i σ H->g x σ H λσ2 H2=>tb { D with nx:=j<|i+1,ct:=j<|i+1,bk:=D.nx } σ2 H2) (hd:∀σ H,j xs.length σ H->D.nx σ H) :
  ∃W:Nat->Nat->St->Hp->Prop,(∃m,W 0 m σ H)/\∀i m σ H,W i m σ H ->
   ((OS K a).stop i H/\D.nx σ H)\/((OS K a).go i H/\∃N:St->Hp->Prop,(∀σ' H',N σ' H'->∃m',m'<m/\W (i+1) m' σ' H')/\∀x H',(OS K a).yld i H x H'->g x σ H' λσ2 H2=>tb { D with nx:=N,ct:=N,bk:=D.nx } σ2 H2):=by
 refine⟨λi m σ H=>m=xs.length-i/\i<=xs.length/\j i σ H,⟨xs.length,by simp,bL _,h0⟩,?_⟩;rintro i m σ H ⟨rfl,hi,p⟩;have q:=J i σ H hi p;by_cases d:i<xs.length
 ·refine .inr ⟨⟨xs,xs[i],q,by simp[d]⟩,j<|i+1,λσ' H' f=>⟨xs.length-(i+1),(),rfl,d,f⟩,λx H' y=>?_⟩;obtain⟨e,y⟩:=y;subst e;exact hs i x σ _ (y xs q) p
 ·have e:i=xs.length:=()
  subst e;exact .inl ⟨⟨xs,q,aO _⟩,hd σ H p⟩
def pJ{c:TT}{tb:TS}{D:Ends}{H:Hp}(j:St->Hp->Prop)(J:St->Hp->Nat)(h0:j σ H)
  (hs:∀σ H,j σ H->c σ H λb H1=>if b=true then tb { D with nx:=λσ' H'=>j σ' H'/\J σ' H'<J σ H,ct:=λσ' H'=>j σ' H'/\J σ' H'<J σ H,bk:=D.nx } σ H1 else D.nx σ H1)
  (mono:∀σ H Q Q',(∀b H1,Q b H1->Q' b H1)->c σ H Q->c σ H Q'):G9 c tb D σ H:=by
 refine⟨λm σ H=>m=J σ H/\j σ H,⟨_,rfl,h0⟩,?_⟩;rintro m σ H ⟨rfl,p⟩;refine mono σ H _ _ (λb H1 q=>?_) (hs σ H p)
 cases b with
 | true=>exact⟨_,λσ' H' ⟨d,l⟩=>⟨_,l,rfl,d⟩,q⟩
 | false=>exact q
meta abbrev R2:=V->V->Hp->VK->Prop
abbrev l8 (X:Cx)(f:aa->aa->Sem aa)(r:R2):Prop:=
 ∀(pins:bt) (s:aE) (σ:St) (H:Hp) (x y:V) (v u:aa) (Q:VK),Inv X pins σ H s->RelV x v->RelV y u->r x y H Q ->
  wpAny (model X.prog X.w) X.A (f v u) (EP X pins σ Q) X.xe s
abbrev QZ (X:Cx)(f:aa->Sem aa)(r:V->Hp->VK->Prop):Prop:=
 ∀(pins:bt) (s:aE) (σ:St) (H:Hp) (x:V) (v:aa) (Q:VK),Inv X pins σ H s->RelV x v->r x H Q ->
  wpAny (model X.prog X.w) X.A (f v) (EP X pins σ Q) X.xe s
abbrev jj (X:Cx)(f:aa)(r:List V->Hp->VK->Prop):Prop:=
 ∀(pins:bt) (s:aE) (σ:St) (H:Hp) (xs:List V) (us:ba) (Q:VK),Inv X pins σ H s->Vals xs us->r xs H Q ->
  wpAny (model X.prog X.w) X.A (call f us) (EP X pins σ Q) X.xe s
abbrev RG (X:Cx)(r:V->Hp->(Bool->Hp->Prop)->Prop):Prop:=
 ∀(pins:bt) (s:aE) (σ:St) (H:Hp) (x:V) (v:aa) (Q:Bool->Hp->Prop),Inv X pins σ H s->RelV x v->r x H Q ->
  wpAny (model X.prog X.w) X.A (truthy v) (TP X pins σ Q) X.xe s
abbrev Qn (r:R2)(ta tb:TE):TE:=λσ H Q=>ta σ H λx H1=>tb σ H1 λy H2=>r x y H2 Q
abbrev TM (r:V->Hp->VK->Prop)(ta:TE):TE:=λσ H Q=>ta σ H λx H1=>r x H1 Q
abbrev rI (C:Int->Int->Prop)(g:Int->Int->V):R2:=λx y H Q=>∃i j,x=.int i/\y=.int j/\C i j/\Q (g i j) H
abbrev Ml (g:Int->Int->V):R2:=λx y H Q=>∃i j,x=.int i/\y=.int j/\Q (g i j) H
abbrev rU (g:Int->V):V->Hp->VK->Prop:=λx H Q=>∃i,x=.int i/\Q (g i) H
section
variable {X:Cx}{a b:aF}{ta tb:TE}{pos:Pos}
def N5(J:PE X a ta)(hb:PE X b tb){H:Hp}{R:V->V->Hp->Prop}(I:Inv X pins σ H s)
  (h:ta σ H λx H1=>tb σ H1 λy H2=>R x y H2) {Q:aa->aE->Prop} {f:aa->aa->Sem aa}
  (hf:∀v u s2 x y H2,Inv X pins σ H2 s2->RelV x v->RelV y u->R x y H2->wpAny (model X.prog X.w) X.A (f v u) Q X.xe s2) :
  wpAny (model X.prog X.w) X.A (eval a X.env) (λv s₁=>wpAny (model X.prog X.w) X.A (eval b X.env) (λu s₂=>wpAny (model X.prog X.w) X.A (f v u) Q X.xe s₂) X.xe s₁) X.xe s:=by
 refine jz (J pins s σ H _ I h) λv d ⟨x,H1,I1,r1,j⟩=>?_;refine jz (hb pins d σ H1 _ I1 j) λu s2 ⟨y,H2,k,r2,g⟩=>?_;exact hf v u s2 x y H2 k r1 r2 g
def Py{r:R2}(j:l8 X (binaryOp op) r)(J:PE X a ta)(hb:PE X b tb):PE X (.BinOp a op b pos) (Qn r ta tb):=by
 w_up;exact wpAny_BinOp<|N5 J hb I h λv u d x y H2 f rx ry q=>j pins d σ H2 x y v u Q f rx ry q
def FJ{r:V->Hp->VK->Prop}(j:QZ X (unaryOp op) r)(J:PE X a ta):PE X (.UnaryOp op a pos) (TM r ta):=by
 w_up;exact UnaryOp_<|jz (J pins s σ H _ I h) λv d ⟨x,H1,I1,r1,f⟩=>j pins d σ H1 x v Q I1 r1 f
def Q5{f:aa->aa->Sem aa}{C:Int->Int->Prop}{g:Int->Int->Int}
  (J:∀(i j:Int) (t u:Tok) (s:aE) (Q:aa->aE->Prop) (E:aa->aE->Prop),C i j->Q (.int (g i j) s.toks) { s with toks:=s.toks+1 }->wpAny (model X.prog X.w) X.A (f (.int i t)<|.int j u) Q E s) :
  l8 X f (rI C λi j=>.int<|g i j):=by
 kcj_m;obtain⟨i,j,rfl,rfl,hc,q⟩:=h;obtain⟨t,rfl⟩:=rx;obtain⟨d,rfl⟩:=ry;exact J i j t d s _ _ hc ⟨.int<|g i j,H,I.tok _,⟨_,rfl⟩,q⟩
def Ql{f:aa->aa->Sem aa}{g:Int->Int->Int}
  (J:∀(i j:Int) (t u:Tok) (s:aE) (Q:aa->aE->Prop) (E:aa->aE->Prop),Q (.int (g i j) s.toks) { s with toks:=s.toks+1 }->wpAny (model X.prog X.w) X.A (f (.int i t)<|.int j u) Q E s) :
  l8 X f (Ml λi j=>.int<|g i j):=by
 kcj_m;obtain⟨i,j,rfl,rfl,q⟩:=h;obtain⟨t,rfl⟩:=rx;obtain⟨d,rfl⟩:=ry;exact J i j t d s _ _ ⟨.int<|g i j,H,I.tok _,⟨_,rfl⟩,q⟩
def J7{f:aa->aa->Sem aa}{g:Int->Int->Bool}
  (J:∀(i j:Int) (t u:Tok) (s:aE) (Q:aa->aE->Prop) (E:aa->aE->Prop),Q (.bool<|g i j) s->wpAny (model X.prog X.w) X.A (f (.int i t)<|.int j u) Q E s) :
  l8 X f (Ml λi j=>.bl<|g i j):=by
 kcj_m;obtain⟨i,j,rfl,rfl,q⟩:=h;obtain⟨t,rfl⟩:=rx;obtain⟨d,rfl⟩:=ry;exact J i j t d s _ _ ⟨.bl<|g i j,H,I,rfl,q⟩
abbrev Rv (i j:Int):Prop:=0<=j/\j<=1000000/\i.natAbs<2 ^ 64
abbrev K4 (i j:Int):Prop:=(-(2 ^ 64)<i/\i<2 ^ 64)\/(-(2 ^ 64)<j/\j<2 ^ 64)
def K4.ok{i j:Int}(h:K4 i j):IntMulOk i j:=by
 rcases h with⟨h1,h2⟩|⟨h1,h2⟩
 ·exact .of_left (intBits_le_64 h1 h2)
 ·exact .of_right<|intBits_le_64 h1 h2
def Ob:l8 X (binaryOp .Add) (Ml λi j=>.int<|i+j):=Ql λ_ _ _ _ _ _ _ q=>add_int q
def Ov:l8 X (binaryOp .Sub) (Ml λi j=>.int<|i-j):=Ql λ_ _ _ _ _ _ _ q=>sub_int q
def Nr:l8 X (binaryOp .Mult) (rI K4 λi j=>.int<|i * j):=Q5 λ_ _ _ _ _ _ _ hc q=>mul_int q hc.ok
def OF:l8 X (binaryOp .Mod) (rI (λ_ j=>0<j) λi j=>.int<|i % j):=Q5 λi j _ _ _ _ _ hc q=>by
 have h1:(0:Int)<j:=hc;exact mod_int' ()<|by rw[Int.fmod_eq_emod_of_nonneg i ()];exact q
def NP:l8 X (binaryOp .Pow) (rI Rv λi j=>.int<|i ^ j.toNat):=Q5 λ_ _ _ _ _ _ _ hc q=>pow_int_small hc.1 hc.2.1 hc.2.2 q
def Ue{f:aa->Sem aa}{g:Int->Int}
  (j:∀(i:Int) (t:Tok) (s:aE) (Q:aa->aE->Prop) (E:aa->aE->Prop),Q (.int (g i) s.toks) { s with toks:=s.toks+1 }->wpAny (model X.prog X.w) X.A (f<|.int i t) Q E s) :
  QZ X f (rU λi=>.int<|g i):=by
 intro pins s σ H x v Q I rx h;obtain⟨i,rfl,q⟩:=h;obtain⟨t,rfl⟩:=rx;exact j i t s _ _ ⟨.int<|g i,H,I.tok _,⟨_,rfl⟩,q⟩
def Aa:QZ X (unaryOp .USub) (rU λi=>.int<|-i):=Ue λ_ _ _ _ _ q=>neg_int q
end
section
variable {X:Cx}{a b c:aF}{ta tb tc:TE}{pos:Pos}
def P_:l8 X (compareOp .Lt) (Ml λi j=>.bl<|decide<|i<j):=J7 λ_ _ _ _ _ _ _ q=>lt_int q
def Qv:l8 X (compareOp .LtE) (Ml λi j=>.bl<|decide<|i<=j):=J7 λ_ _ _ _ _ _ _ q=>le_int q
def O_:l8 X (compareOp .Gt) (Ml λi j=>.bl<|decide<|j<i):=J7 λ_ _ _ _ _ _ _ q=>gt_int q
def Ph:l8 X (compareOp .GtE) (Ml λi j=>.bl<|decide<|j<=i):=J7 λ_ _ _ _ _ _ _ q=>ge_int q
def G_(b:aF)(h:op≠.In<|>δ)(h2:op≠.NotIn<|>δ):behindInMarks op b=false:=by
 have e1:(op == CmpOp.In)=false:=by cases op<;>first|rfl|exact absurd rfl h
 have e2:(op == CmpOp.NotIn)=false:=by cases op<;>first|rfl|exact absurd rfl h2
 cases b<;>simp[behindInMarks,e1,e2]
def J0{j:CmpOp}{r:R2}(J:l8 X (compareOp j) r)(L:PE X a ta)(hb:PE X b tb)(hm:behindInMarks j b=false):PE X (.Compare a [j] [b] pos) (Qn r ta tb):=by
 w_up;exact wpAny_Compare1 (N5 L hb I h λv u d x y H2 f rx ry q=>J pins d σ H2 x y v u Q f rx ry q) hm
abbrev Qp (t:TE):TT:=λσ H Q=>t σ H λx H'=>∃k,x=.bl k/\Q k H'
def JL{J:CmpOp}{r:R2}(L:l8 X (compareOp J) r)(M:PE X a ta)(hb:PE X b tb)(hm:behindInMarks J b=false):PT X (.Compare a [J] [b] pos) (Qp<|Qn r ta tb):=by
 w_up;refine wpAny_isTrue_Compare1 (jz (M pins s σ H _ I h) λv g ⟨x,H1,I1,r1,m⟩=>jz (hb pins g σ H1 _ I1 m) λu d ⟨y,H2,t,r2,j⟩=>
  jz (L pins d σ H2 x y v u _ t r1 r2 j) λc C ⟨z,B,I3,r3,k,e,f⟩=>?_) hm
 subst e
 cases r3
 exact dJ ⟨B,I3,f⟩
abbrev GJ (r r':R2)(ta tb tc:TE):TE:=λσ H Q=>ta σ H λx H1=>tb σ H1 λy H2=>r x y H2 λz d=>∃k,z=.bl k /\
 (if k=true then tc σ d λf g=>r' y f g Q else Q (.bl false) d)
def Ie{r r':R2}(Z:l8 X (compareOp op) r)(U:l8 X (compareOp op') r')(ha:PE X a ta)(hb:PE X b tb)(hc:PE X c tc)
  (hm:lastMarks [op,op'] [b,c]=false<|>η):PE X (.Compare a [op,op'] [b,c] pos) (GJ r r' ta tb tc):=by
 w_up;refine Compare_chain (jz (ha pins s σ H _ I h) λv B ⟨x,H1,I1,r1,F⟩=>chain_link (jz (hb pins B σ H1 _ I1 F) λu j ⟨y,H2,G,r2,C⟩=>
  jz (Z pins j σ H2 x y v u _ G r1 r2 C) λd m ⟨z,g,I3,r3,k,e,f⟩=>?_)) hm
 subst e
 cases r3
 refine dJ ?_
 cases k with
 | false=>exact ite_ff ⟨.bl false,g,I3,rfl,f⟩
 | true=>exact ite_tt<|chain_last<|jz (hc pins m σ g _ I3 f) λK N ⟨t,J,O,M,L⟩=>U pins N σ J y t u K Q O r2 M L
abbrev Of (K:aA)(x:V)(H:Hp)(k:Bool):Prop:=
 match x with
 | .non=>k=false
 | .bl b=>k=b
 | .int i=>k=(i != 0)
 | .str y=>y.length<=sizeLine/\k=((y.length:Int) != 0)
 | .byt y=>y.size<=sizeLine/\k=((y.size:Int) != 0)
 | .ref p=>(∃xs,j5 K H p xs/\k=!xs.isEmpty)\/(∃xs,l7 K H p xs/\k=!xs.isEmpty)\/∃kvs,H p=some (.dK kvs)/\k=!kvs.isEmpty
 | _=>False
def Ac{κ:Type}{kvs:List<|κ×V}{vs:List<|κ×aa}(r:KV kvs vs):(!vs.isEmpty)=!kvs.isEmpty:=by
 cases r<;>rfl
def uB{xs:List V}{its:ba}(r:Vals xs its):(!its.toArray.isEmpty)=!xs.isEmpty:=by
 cases r<;>simp
def sL:(sizeLine:Nat)<2 ^ 63:=by rw[cY];decide
def NH:RG X (λx H Q=>∃k,Of X.K x H k/\Q k H):=by
 intro pins s σ H x v Q I rx h;obtain⟨k,e,q⟩:=h;have F:=sL;have hs:sizeLine=16777216:=cY
 cases x with
 | non=>
  cases rx
  have d:k=false:=e;subst d;exact truthy_none ⟨H,I,q⟩
 | bl b=>
  cases rx
  have d:k=b:=e;subst d;exact dJ ⟨H,I,q⟩
 | int i=>
  obtain⟨t,rfl⟩:=rx;have d:k=(i != 0):=e;subst d;exact PySem.P.truthy_int ⟨H,I,q⟩
 | str y=>
  obtain⟨t,rfl⟩:=rx;obtain⟨hy,d⟩:y.length<=sizeLine/\k=((y.length:Int) != 0):=e;subst d;exact PySem.P.truthy_str () ⟨H,I.tok _,q⟩
 | byt y=>
  obtain⟨t,rfl⟩:=rx;obtain⟨hy,d⟩:y.size<=sizeLine/\k=((y.size:Int) != 0):=e;subst d;exact PySem.W.truthy_bytes () ⟨H,I.tok _,q⟩
 | ref p=>
  cases rx
  have d:(∃xs,j5 X.K H p xs/\k=!xs.isEmpty)\/(∃xs,l7 X.K H p xs/\k=!xs.isEmpty)\/∃kvs,H p=some (.dK kvs)/\k=!kvs.isEmpty:=e
  rcases d with⟨xs,hx,d⟩|⟨xs,hx,d⟩|⟨kvs,hx,d⟩
  ·subst d;obtain⟨j,r,z,B⟩:=I.list hx;have f:=r.length;exact wpAny_truthy_list z.isList (by dsimp[aX];lia) ⟨H,I.tok _,by rw[uB r];exact q⟩
  ·subst d;obtain⟨j,r,z,B⟩:=I.tuple hx;have f:=r.length;exact truthy_tuple z (by dsimp[aX];lia) ⟨H,I.tok _,by rw[uB r];exact q⟩
  ·subst d;obtain⟨B,C,g,r,m⟩:kvs.length<=sizeLine/\(p == sysModules)=false/\∃g,KV kvs g/\s.heap.DictOf (jD X.prog X.w) p g:=I.hok p _ hx;have f:kvs.length=g.length:=gk r;exact wpAny_truthy_dict C m () ⟨H,I.tok _,by rw[Ac r];exact q⟩
 | _=>exact(show False from e).elim
def GO(j:PE X a ta)(J:∀whole,isTrue a X.env whole=(do let v <- whole;standAt a.pos;holding [v] (truthy v))) :
  PT X a (λσ H Q=>ta σ H λx H'=>∃k,Of X.K x H' k/\Q k H'):=by
 w_up;exact isTrue_plain (jz (j pins s σ H _ I h) λv d ⟨x,H1,I1,r1,f⟩=>NH pins d σ H1 x v Q I1 r1 f)<|J _
def Aw:l8 X (binaryOp .Add) (λx y H Q=>∃i j,x=.str i/\y=.str j/\i.length+j.length<=sizeLine/\Q (.str<|i++j) H):=by
 kcj_m;obtain⟨i,j,rfl,rfl,f,q⟩:=h;obtain⟨t,rfl⟩:=rx;obtain⟨d,rfl⟩:=ry;exact add_str (λd g=>⟨.str<|i++j,H,I.tok _,⟨_,rfl⟩,q⟩) f
def vals1{x:V}(r:Vals [x] us):∃u,us=[u]/\RelV x u:=by
 cases r with
 | cons r1 r2=>cases r2;exact⟨_,rfl,r1⟩
def vals2{x:V}(r:Vals [x,y] us):∃u w',us=[u,w']/\RelV x u/\RelV y w':=by
 cases r with
 | cons r1 r2=>
  cases r2 with
  | cons r3 d=>cases d;exact⟨_,_,rfl,r1,r3⟩
def D8(hc:X.calm=true):jj X (.builtin "max") (λxs H Q=>∃i j,xs=[.int i,.int j]/\Q (.int<|if j>i then j else i) H):=by
 kt_k;obtain⟨i,j,rfl,q⟩:=h;obtain⟨u,g,rfl,⟨t,rfl⟩,⟨m,rfl⟩⟩:=vals2 r;refine max_two_ints (I.ok.hd hc) λh' f k=>⟨_,H,I.kept k,?_,q⟩;by_cases d:j>i
 ·rw[aS d,aS d];exact⟨_,rfl⟩
 ·rw[aU d,aU d];exact⟨_,rfl⟩
def Ed(hc:X.calm=true):jj X (.builtin "min") (λxs H Q=>∃i j,xs=[.int i,.int j]/\Q (.int<|if j<i then j else i) H):=by
 kt_k;obtain⟨i,j,rfl,q⟩:=h;obtain⟨u,g,rfl,⟨t,rfl⟩,⟨m,rfl⟩⟩:=vals2 r;refine min_two_ints (I.ok.hd hc) λh' f k=>⟨_,H,I.kept k,?_,q⟩;by_cases d:j<i
 ·rw[aS d,aS d];exact⟨_,rfl⟩
 ·rw[aU d,aU d];exact⟨_,rfl⟩
abbrev SN (K:aA)(x:V)(H:Hp)(n:Nat):Prop:=
 match x with
 | .str y=>y.length<=sizeLine/\n=y.length
 | .byt y=>y.size<=sizeLine/\n=y.size
 | .ref p=>(∃xs,j5 K H p xs/\n=xs.length)\/∃xs,l7 K H p xs/\n=xs.length
 | _=>False
def Iq:jj X (.builtin "len") (λxs H Q=>∃x n,xs=[x]/\SN X.K x H n/\Q (.int n) H):=by
 kt_k;obtain⟨x,n,rfl,e,q⟩:=h;kst_p;have z:=sL;have hs:sizeLine=16777216:=cY
 cases x with
 | str y=>
  obtain⟨t,rfl⟩:=rx;obtain⟨hy,f⟩:y.length<=sizeLine/\n=y.length:=e;subst f;exact len_str () ⟨.int _,H,I.tok _,⟨_,rfl⟩,q⟩
 | byt y=>
  obtain⟨t,rfl⟩:=rx;obtain⟨hy,f⟩:y.size<=sizeLine/\n=y.size:=e;subst f;exact PySem.W.len_bytes () ⟨.int _,H,I.tok _,⟨_,rfl⟩,q⟩
 | ref p=>
  cases rx
  have f:(∃xs,j5 X.K H p xs/\n=xs.length)\/∃xs,l7 X.K H p xs/\n=xs.length:=e
  rcases f with⟨xs,hx,f⟩|⟨xs,hx,f⟩
  ·subst f;obtain⟨g,j,k,m⟩:=I.list hx;have d:=j.length;exact Calls.call_len_list k.isList (by dsimp[aX];lia) ⟨.int xs.length,H,I.tok _,⟨_,by dsimp[aX];rw[d]⟩,q⟩
  ·subst f;obtain⟨g,j,k,m⟩:=I.tuple hx;have d:=j.length;exact len_tuple k (by dsimp[aX];lia) ⟨.int xs.length,H,I.tok _,⟨_,by dsimp[aX];rw[d]⟩,q⟩
 | _=>exact(show False from e).elim
end
structure ObjM (h:au)(x dx C:aq)(mA:Str->bi):Prop where
 obj:h.get? x=some (PySem.W.instObj C dx)
 ns:h.Ns1 dx mA
 ne:dx≠x
def Ea{h:au}{J:Str->bi}(n:h.Ns1 dx J):∃od,h.get? dx=some od/\∀name,PySem.W.lookIn name od=some (J name):=by
 obtain⟨o,es,ep,j,hd,f,_,hm⟩:=n;refine⟨o,j,λname=>?_⟩;have e:=hm name;unfold nsFind findBy at e;rw[<- Array.find?_toList]at e;unfold PySem.W.lookIn;rw[hd];dsimp only;split
 ·rename_i y q;rw[q]at e;exact cA some e
 ·rename_i q;rw[q]at e;have a:es.toList.any (·.refKey)=false:=by
   rw[List.any_eq_false];intro y hy;obtain⟨z,t,d⟩:=f y<|Array.mem_toList_iff.mp hy;simp[DictEntry.refKey,d]
  have g:¬es.toList.any (·.refKey)=true:=by rw[a];exact bg
  rw[aU g];exact cA some e
def ObjM.look{x C:aq}{j:Str->bi}(I:ObjM h x dx C j):∃od,PySem.W.InstAt h x (PySem.W.instObj C dx) C (some od)/\∀name,PySem.W.lookIn name od=some (j name):=
 let⟨od,ho,hl⟩:=Ea I.ns
 ⟨od,⟨I.obj,rfl,rfl,ho⟩,hl⟩
def u0.some_of{v:V}(r:u0 (some v) o):∃u,o=some u/\RelV v u:=by
 cases o with
 | none=>exact(show False from r).elim
 | some u=>exact⟨u,rfl,r⟩
section
variable {P:ah}{w:af}{H:Hp}{h:au}{a C dx:aq}{fs:List (Str×V)}
def Kv(hok:qT P w H h)(e:H a=some (.ins C dx fs)):∃mA,ObjM h a dx C mA/\(∀f,u0 (fs.lookup f)<|mA f)/\PySem.Within mA (fs.map (·.1))/\fs.length<=1000/\H dx=some (.own a):=by
 obtain⟨d,z,g,ob,mA,n,r,q⟩:=(show jx P w H h a (.ins C dx fs)from hok a _ e);exact⟨mA,⟨ob,n,g⟩,r,q,z,d⟩
end
structure Cls (K:aA)(C:aq):Prop where
 pg:PySem.W.plainGet K C Str.empty=true
 hd:PySem.W.hasDictIn K C=true
 po:PySem.W.plainOver K C=true
 sa:PySem.W.findIn K (.ref C) "__setattr__" = some (some<|.builtin "object.__setattr__")
def Cls.get{K:aA}{C:aq}(c:Cls K C)(f:Str):PySem.W.plainGet K C f=true:=c.pg
section
variable {X:Cx}{pins:bt}{σ:St}{H:Hp}{s:aE}{A:aC}{E:aa->aE->Prop}{Q:aa->aE->Prop}{c:aa}{b:Bool}
inductive TyOf (K:aA) (H:Hp):V->aa->Prop where
 | non:TyOf K H .non (.type "NoneType")
 | bl (x:Bool):TyOf K H (.bl x) (.type "bool")
 | int (i:Int):TyOf K H (.int i) (.type "int")
 | str (x:Str):TyOf K H (.str x) (.type "str")
 | flt (x:UInt64):TyOf K H (.flt x) (.type "float")
 | lst {a:aq} {xs:List V} (e:H a=some (.lst xs)):TyOf K H (.ref a) (.type "list")
 | frz {a:aq} {o:Obj} {xs:List V} (e:H a=some (.frz o<|.lst xs)):TyOf K H (.ref a) (.type "list")
 | tup {a:aq} {xs:List V} (e:H a=some (.tup xs)):TyOf K H (.ref a) (.type "tuple")
 | dK {a:aq} {kvs:List<|Key×V} (e:H a=some (.dK kvs)):TyOf K H (.ref a) (.type "dict")
 | dT {a:aq} {kvs:List<|List Key×V} (e:H a=some (.dT kvs)):TyOf K H (.ref a) (.type "dict")
 | ins {a C dx:aq} {fs:List<|Str×V} (e:H a=some (.ins C dx fs)) (cl:Cls K C) (ha:PySem.W.findIn K (.ref C) "__class__" = some (some<|.builtin "object.__class__"))
   (hn:PySem.W.specialIn K (.builtin "object.__class__") "__get__" = some (some<|.builtin "getset_descriptor.__get__")) (htk:PySem.W.takesIn K (.builtin "object.__class__")=some true)
   (hm:PySem.W.mroIn K C (.type "object")=some true):TyOf K H (.ref a)<|.ref C
def DE{x:V}{t:aa}(I:Inv X pins σ H s)(rx:RelV x u)(ty:TyOf X.K H x t)(e:PySem.W.kitOne X.K t c=some b)(h:∀tk,Q (.bool b) { s with toks:=tk }) :
  wpAny (model X.prog X.w) A (call (.builtin "isinstance") [u,c]) Q E s:=by
 cases ty with
 | non=>cases(show u=Value.none from rx);exact cB PySem.W.kitx_none I.xY True.intro e (λz=>nomatch z) h
 | bl y=>cases(show u=Value.bool y from rx);exact cB PySem.W.kitx_bool I.xY True.intro e (λz=>nomatch z) h
 | int i=>obtain⟨t,q⟩:=(show ∃t,u=Value.int i t from rx);cases q;exact cB PySem.W.kitx_int I.xY True.intro e (λz=>nomatch z) h
 | str y=>obtain⟨t,q⟩:=(show ∃t,u=Value.str y t from rx);cases q;exact cB PySem.W.kitx_str I.xY True.intro e (λz=>nomatch z) h
 | flt y=>obtain⟨t,q⟩:=(show ∃t,u=Value.float y t from rx);cases q;exact cB PySem.W.kitx_float I.xY True.intro e (λz=>nomatch z) h
 | @lst a xs d=>
  cases(show u=Value.ref a from rx)
  obtain⟨_,_,n,_,h1⟩:=(show jx X.prog X.w H s.heap a (.lst xs)from I.hok a _ d);exact cB PySem.W.kitx_list I.xY ⟨_,h1,rfl⟩ e (λz=>nomatch z) h
 | @frz a ob xs d=>
  cases(show u=Value.ref a from rx)
  obtain⟨_,_,_,n,_,h1⟩:=(show jx X.prog X.w H s.heap a (.frz ob<|.lst xs)from I.hok a _ d);exact cB PySem.W.kitx_list I.xY ⟨_,h1,rfl⟩ e (λz=>nomatch z) h
 | @tup a xs d=>
  cases(show u=Value.ref a from rx)
  obtain⟨_,_,_,p⟩:=(show jx X.prog X.w H s.heap a (.tup xs)from I.hok a _ d);obtain⟨o,h1,h2,_⟩:=p;exact cB PySem.W.kitx_tuple I.xY ⟨o,h1,h2⟩ e (λz=>nomatch z) h
 | @dK a kvs d=>
  cases(show u=Value.ref a from rx)
  obtain⟨_,_,B,_,p⟩:=(show jx X.prog X.w H s.heap a (.dK kvs)from I.hok a _ d);obtain⟨o,es,ep,h1,h2,_⟩:=p;exact cB PySem.W.kitx_dict I.xY ⟨o,h1,h2.1⟩ e (λz=>nomatch z) h
 | @dT a kvs d=>
  cases(show u=Value.ref a from rx)
  obtain⟨_,_,xs,_,o,es,ep,h1,h2,_⟩:=(show jx X.prog X.w H s.heap a (.dT kvs)from I.hok a _ d);exact cB PySem.W.kitx_dict I.xY ⟨o,h1,h2.1⟩ e (λz=>nomatch z) h
 | @ins a C dx fs d g j hn f hm=>
  cases(show u=Value.ref a from rx)
  obtain⟨m,O,_⟩:=Kv I.hok d;obtain⟨k,J,_⟩:=O.look;exact cB (PySem.W.kitx_own (g.get _) g.hd j hn f hm) I.xY J e (λz=>nomatch z) h
end
structure Room (k:Nat)(A:aC):Prop where
 hd:A.handled=none
 dp:A.depth+3 * k+5<recursionLimit
 un:A.units+16 * k+200<cLine
 gs:A.guards=some []
def Room.mono{k:Nat}{A:aC}(r:Room k A)(h:j<=k):Room j A:=⟨r.hd,by have:=r.dp;lia,by have:=r.un;lia,r.gs⟩
def Room.deeper{k:Nat}{A:aC}(r:Room (k+1) A)(env:Env):Room k (A.deeper env):=
 ⟨r.hd,by have:=r.dp;show A.depth+1+3 * k+5<_;lia,by have:=r.un;show A.units+3+16 * k+200<_;lia,r.gs⟩
def Room.depth{k:Nat}{A:aC}(r:Room k A):A.depth<recursionLimit:=by have:=r.dp;lia
def Room.units{k:Nat}{A:aC}(r:Room k A):A.units+64<cLine:=by have:=r.un;lia
abbrev Sf:TA:=λ_ H Q=>Q [] H
abbrev PF (ta:TE)(tr:TA):TA:=λσ H Q=>ta σ H λx H1=>tr σ H1 λxs H2=>Q (x::xs) H2
section
variable {X:Cx}{e:aF}{es:List aF}{te:TE}{t:TA}{pos:Pos}
def sf:PA X [] Sf:=λ_ _ _ _ H Q I h=>Calls.spliced_nil ⟨[],H,I,.nil,h⟩
def ly(J:PE X e te)(hr:PA X es t)(hs:starEach (e::es) X.env=(false,eval e X.env)::starEach es X.env<|>ε):PA X (e::es) (PF te t):=by
 intro pos pins s σ H Q I h;rw[hs]
 skip
 refine Calls.spliced_cons<|jz (J pins s σ H _ I h) λu d ⟨x,H1,I1,r1,g⟩=>?_;exact jz (hr pos pins d σ H1 _ I1 g) λus k ⟨xs,H2,j,r2,f⟩=>⟨x::xs,H2,j,.cons r1 r2,f⟩
abbrev Rj (t:TA):TE:=λσ H Q=>t σ H λxs H1=>xs.length<=sizeLine/\∀p,H1 p=none->Q (.ref p) (upd H1 p<|.tup xs)
abbrev SM (t:TA):TE:=λσ H Q=>t σ H λxs H1=>xs.length<=sizeLine/\∀p,H1 p=none->Q (.ref p) (upd H1 p<|.lst xs)
def MN{x1}(h:PA X es t):PE X (.Tuple es x1 pos) (Rj t):=by
 intro pins s σ H Q I f;refine wpAny_Tuple_spliced (jz (h pos pins s σ H _ I f) λus d ⟨xs,H1,I1,r,z,q⟩=>⟨by rw[<- r.length];exact z,?_⟩);have hf:H1 d.heap.objs.size=none:=I1.hok.fresh<|aO _;refine⟨.ref d.heap.objs.size,upd H1 d.heap.objs.size<|.tup xs,I1.laid (t':=d.toks) (λb u e=>aQ _ e) (aO _) ?_,rfl,q _ hf⟩;exact⟨z,us,r,⟨_,bJ _ rfl,rfl,rfl,_,rfl⟩⟩
def MA(h:PA X es t):PE X (.List es pos) (SM t):=by
 intro pins s σ H Q I f;refine wpAny_List_spliced (jz (h pos pins s σ H _ I f) λus d ⟨xs,H1,I1,r,z,q⟩=>⟨by rw[<- r.length];exact z,?_⟩);have hf:H1 d.heap.objs.size=none:=I1.hok.fresh<|aO _;refine⟨.ref d.heap.objs.size,upd H1 d.heap.objs.size<|.lst xs,I1.laid (t':=d.toks) (λb u e=>aQ _ e) (aO _) ?_,rfl,q _ hf⟩;exact⟨z,us,0,r,bJ _ rfl⟩
end
meta abbrev Sp:=List V->Hp->VK->XK->Prop
meta abbrev Jm:=List Env->Hp->aE->XK->aa->aE->Prop
structure Env0 (P:ah)(w:af)(K:aA)(mg:Str->bi)(base:au)(A:aC)(outer:List Env)(s:aE)(H:Hp):Prop where
 frames:A.frames=some outer
 mod:Mod K mg base
 bs:∀b o,base.get? b=some o->s.heap.get? b=some o/\H b=none
 bsz:base.objs.size<=s.heap.objs.size
 uM:s.heap.FunFrames base outer
 frf:∀b∈frs outer,H b=none
 hok:qT P w H s.heap
 bare:AllBare s.gens
abbrev CE (outer:List Env)(P:ah)(w:af)(H:Hp)(s:aE)(Q:VK)(u:aa)(s':aE):Prop:=
 ∃v H',s'.os=s.os/\AllBare s'.gens/\Un (frs outer) [] H H' s.heap s'.heap/\qT P w H' s'.heap/\RelV v u/\Q v H'
abbrev CR (CX:Jm)(outer:List Env)(P:ah)(w:af)(H:Hp)(s:aE)(Q:VK)(E:XK)(r:Result)(s':aE):Prop:=
 match r with
 | .ok (.ret u)=>CE outer P w H s Q u s'
 | .ok _=>False
 | .error e=>CX outer H s E e s'
structure FnOk (P:ah)(w:af)(K:aA)(mg:Str->bi)(base:au)(CX:Jm)(k:Nat)(f:aq)(fd:FuncData)(ps:ar)(sp:Sp):Prop where
 len:∀vs H Q E,sp vs H Q E->vs.length=ps.length
 run:∀(A:aC) (outer:List Env) (s:aE) (H:Hp) (args:Args) (us:ba) (vs:List V) (Q:VK) (E:XK),Room k A->Env0 P w K mg base A outer s H->BindsTo s fd args (ps.zip us)->Vals vs us->sp vs H Q E ->
  codeAny (model P w) A (.call (.ref f) args) (CR CX outer P w H s Q E) s
section
variable {X:Cx}{pins:bt}{σ:St}{H:Hp}{s s':aE}
def Inv.RX(I:Inv X pins σ H s):Env0 X.prog X.w X.K X.mg X.base X.A X.stack s H:=
 ⟨I.ok.frames,I.ok.mod,I.bs,bC I.ok.bsz I.sz,I.stack,I.CT,I.hok,I.bare⟩
def Inv.after{Q:VK}(I:Inv X pins σ H s)(h:CE X.stack X.prog X.w H s Q u s'):EP X pins σ Q u s':=by
 obtain⟨v,H',os,bare,un,hok,r,q⟩:=h;obtain⟨hh,g,d,t,f⟩:=s';obtain rfl:f=s.os:=os;exact⟨v,H',I.call (h':=hh) (g':=g) (d':=d) (t':=t) (ch:=[]) un hok bare λb z=>absurd z<|by simp,r,q⟩
end
abbrev LM (sp:Sp)(dvs:List V)(E:XK)(t:TA):TE:=λσ H Q=>t σ H λd H1=>sp (d++dvs) H1 Q E
abbrev Binds (K:aA)(fd:FuncData)(ps:ar)(ds:ba):Prop:=
 ∀(s:aE) (us:ba),K.In s.heap->(us++ds).length=ps.length->BindsTo s fd ⟨us,[]⟩ (ps.zip<|us++ds)
def Binds.all{K:aA}{ps:ar}(h:∀us:ba,us.length=ps.length->bindArgs fd ⟨us,[]⟩=pure (ps.zip us)):Binds K fd ps []:=λs us _ d=>by
 rw[bI]at d ⊢;exact .of_eq<|h us d
abbrev Passes (CX:Jm)(X:Cx)(E:XK):Prop:=∀(pins:bt) (σ:St) (H:Hp) (s:aE) (e:aa) (s':aE),Inv X pins σ H s->CX X.stack H s E e s'->X.xe e s'
section
variable {X:Cx}{CX:Jm}{k:Nat}{f C:aq}{fd:FuncData}{ps:ar}{sp:Sp}{dvs:List V}{ds:ba}{E:XK}{x:Str}{p pos:Pos}{e:aF}{es:List aF}{t:TA}
def ML{H:Hp}{Q:VK}(F:FnOk X.prog X.w X.K X.mg X.base CX k f fd ps sp)(hr:Room k X.A)(hb:Binds X.K fd ps ds)(hd:Vals dvs ds)(hx:Passes CX X E)
  (I:Inv X pins σ H s) (r:Vals vs us) (h:sp (vs++dvs) H Q E):wpAny (model X.prog X.w) X.A (call (.ref f) us) (EP X pins σ Q) X.xe s:=by
 have r2:Vals (vs++dvs) (us++ds):=r.append hd;have g:(us++ds).length=ps.length:=by rw[<- r2.length];exact F.len _ _ _ _ h
 refine wpAny_call (gD (F.run X.A X.stack s H ⟨us,[]⟩ (us++ds) (vs++dvs) Q E hr I.RX (hb s us I.xY g) r2 h) λr s' d=>?_)
 cases r with
 | error e=>exact hx pins σ H s e s' I d
 | ok fl=>
  cases fl with
  | ret u=>exact I.after d
  | next=>exact False.elim d
  | brk=>exact False.elim d
  | cont=>exact False.elim d
def KW(F:FnOk X.prog X.w X.K X.mg X.base CX k f fd ps sp)(hr:Room k X.A)(hg:Gl X x)(hm:X.mg x=some (.ref f))(L:PySem.W.keepIn X.K (.ref f)=true)(hb:Binds X.K fd ps ds)(hd:Vals dvs ds)(hx:Passes CX X E)
  (M:PA X (e::es) t) (j:(x == ("__debug__" : Str))=false<|>δ) (U:starEach (e::es) X.env=(false,eval e X.env)::starEach es X.env<|>ε) (J:((backTo pos<|starEach es X.env).any (·.1)=false)<|>ε) :
  PE X (.Call (.Name x p) (e::es) [] pos) (LM sp dvs E t):=by
 w_up;refine gH<|AN I hg hm ?_ j;refine PySem.W.callWith_K (h₀:=X.base) I.ok.mod.kin L (jz (M pos pins s σ H _ I h) λus d ⟨g,H1,I1,r,q⟩=>⟨I1.xY,?_⟩) U J;exact ML F hr hb hd hx I1 r q
end
section
variable {fd:FuncData}{ps ks:ar}
end
structure FnScope (N P:ar)(sc:Scope):Prop where
 kind:sc.kind=.function
 co:sc.isCoroutine=false
 gen:sc.isGenerator=false
 nd:N.Nodup
 pre:N.take P.length=P
 par:∀x∈P,sc.names.lookup x=some .local\/sc.names.lookup x=some .cell
 nofree:∀y∈sc.names,y.2≠.free
theorem vW{j:Str->Option NameKind}{x:Str}:∀{binds:List<|Str×aa}{m:Str->bi},(∀v,(x,v)∉binds)->bindL j binds m x=m x
 | [],_,_=>rfl
 | (n,v)::r,m,h=>by
  unfold bindL;rw[vW λw hw=>h w<|aK _ hw];split
  ·have:x≠n:=by rintro rfl;exact h v aM
   simp[this]
  ·rfl
theorem wj{j:Str->Option NameKind}{x:Str}:∀{binds:List<|Str×aa}{m:Str->bi},(∀v,(x,v)∉binds)->bindC j binds m x=m x
 | [],_,_=>rfl
 | (n,v)::r,m,h=>by
  unfold bindC;rw[wj λw hw=>h w<|aK _ hw];split
  ·rfl
  ·have:x≠n:=by rintro rfl;exact h v aM
   simp[this]
theorem wm{j:Str->Option NameKind}{x:Str}{v:aa}:∀{P:ar}{vs:ba}{i:Nat}{m:Str->bi},P.Nodup->P[i]?=some x->vs[i]?=some v->j x=some .local ->
  bindL j (P.zip vs) m x=some v
 | [],_,_,_,_,h,_,_=>by simp at h
 | _::_,[],_,_,_,_,h,_=>by simp at h
 | p::P,w::vs,0,m,nd,h1,h2,hk=>by
  simp at h1 h2;subst h1;subst h2;show bindL j ((p,w)::P.zip vs) m p=_;unfold bindL;rw[vW λv hv=>(bP.mp nd).1 (iw hv).1,aS hk];simp
 | p::P,w::vs,i+1,m,nd,h1,h2,hk=>by
  skip
  unfold bindL;exact wm (i:=i) (bP.mp nd).2 (by simpa using h1) (by simpa using h2) hk
theorem vZ{j:Str->Option NameKind}{x:Str}{v:aa}:∀{P:ar}{vs:ba}{i:Nat}{m:Str->bi},P.Nodup->P[i]?=some x->vs[i]?=some v->j x≠some .local ->
  bindC j (P.zip vs) m x=some v
 | [],_,_,_,_,h,_,_=>by simp at h
 | _::_,[],_,_,_,_,h,_=>by simp at h
 | p::P,w::vs,0,m,nd,h1,h2,hk=>by
  simp at h1 h2;subst h1;subst h2;show bindC j ((p,w)::P.zip vs) m p=_;unfold bindC;rw[wj λv hv=>(bP.mp nd).1 (iw hv).1,aU hk];simp
 | p::P,w::vs,i+1,m,nd,h1,h2,hk=>by
  skip
  unfold bindC;exact vZ (i:=i) (bP.mp nd).2 (by simpa using h1) (by simpa using h2) hk
abbrev start (N:ar)(vs:List V):St:=vs.map some++List.replicate (N.length-vs.length) none
abbrev AF (CX:Jm)(P:ah)(w:af)(K:aA)(mg:Str->bi)(base:au)(N:ar)(j:Str)(scope:Scope)(f:aq)(J:aa)(A:aC)(outer:List Env)(s:aE)(H:Hp)(E:XK):Cx where
 prog:=P
 w:=w
 K:=K
 mg:=mg
 base:=base
 A:=A.deeper (envOfC j scope s.heap.objs.size f J)
 N:=N
 s₀:=s
 H₀:=H
 env:=envOfC j scope s.heap.objs.size f J
 outer:=outer
 stack:=envOfC j scope s.heap.objs.size f J::outer
 ex:=[]
 calm:=true
 fn:=λ_=>true
 pn:=[]
 xe:=λe s'=>wpAny (model P w) (A.deeper<|envOfC j scope s.heap.objs.size f J) (leaving (envOfC j scope s.heap.objs.size f J) e) (λ_ d=>CX outer H s E e d) (λg d=>CX outer H s E g d) s'
def zq{j:Scope}{n:Nat}{x:Str}(h:j.names.lookup x=some .cell):∃c,(cellsFrom n j.names []).lookup x=some c:=by
 have q:=eB j.names n []<|.inl h;exact cX.mp q
def Ds{CX:Jm}{P:ah}{w:af}{K:aA}{mg:Str->bi}{base:au}{N ps:ar}{scope:Scope}{f:aq}{A:aC}{outer:List Env}{s:aE}{H:Hp}{E:XK}{vs:List V}
  (S:FnScope N ps scope) (hd:A.handled=none) (e0:Env0 P w K mg base A outer s H) (J:vs.length=ps.length) (r:Vals vs us)
  (x:InCallC s s.heap.objs.size (bindL (envOfC qual scope s.heap.objs.size f cd).kindOf (ps.zip us) λ_=>none) (cellsFrom (s.heap.objs.size+1) scope.names []) (bindC (envOfC qual scope s.heap.objs.size f cd).kindOf (ps.zip us) λ_=>none) s1) :
  Inv (AF CX P w K mg base N qual scope f cd A outer s H E) [] (start N vs) H s1:=by
 have B:ps.length<=N.length:=by have:=cA List.length S.pre;rw[b_]at this;lia
 obtain⟨h1,F,rfl,j⟩:=x.done;have d:∀b:aq,b∉(AF CX P w K mg base N qual scope f cd A outer s H E).ex:=λb z=>absurd (show b∈([]:bd)from z) (by simp);refine⟨⟨e0.mod,S.kind,rfl,rfl,aO _,λy z c h1 h2=>?_,λy hy=>?_,λy c _ h=>?_,λ_=>hd,Around.frames_deeper e0.frames,.inr ⟨rfl,rfl⟩,λb z=>absurd z<|d b,e0.bs,e0.bsz,λb _ _=>d b,λb z=>absurd z<|d b,e0.uM,e0.frf⟩,
  rfl,e0.bare,Un.kept j,⟨_,x.toInCall.ns,λi y v h1 h2 G=>?_⟩,λy c h=>⟨_,x.cell y c h⟩,e0.hok.fresh<|aO _,λy c h=>?_,λp hp=>absurd (show p∈([]:bt)from hp)<|by simp,e0.hok.kept j,?_⟩
 ·exact name_of_addr x.apart (cI h1) (cI h2)
 ·have hy:scope.names.lookup y=some .cell\/scope.names.lookup y=some .free:=hy
  rcases hy with hy|hy
  ·exact zq hy
  ·exact absurd rfl<|S.nofree _<|cI hy
 ·exact cW (x.above y c<|cI h)
 ·have hi:i<vs.length:=by
   unfold start at h2;by_cases hi:i<vs.length
   ·exact hi
   ·rw[bX<|by simpa using hi]at h2;rw[fJ]at h2;split at h2<;>cases h2
  have t:vs[i]?=some v:=by
   unfold start at h2;rw[aR<|by simpa using hi,aY]at h2
   cases e:vs[i]? with
   | none=>rw[e]at h2;cases h2
   | some a=>rw[e]at h2;cases h2;rfl
  obtain⟨u,m,C⟩:=r.get t;have hp:ps[i]?=some y:=by
   rw[<- S.pre,fy ()];exact h1
  have g:ps.Nodup:=by rw[<- S.pre];exact S.nd.sublist (List.take_sublist _ _)
  refine⟨u,C,?_⟩
  rcases S.par y (bz hp)with k|k
  ·exact .inl ⟨k,wm g hp m k⟩
  ·obtain⟨c,e⟩:=zq (n:=s.heap.objs.size+1) k;refine .inr ⟨.inl k,c,e,?_⟩;have q:=x.cell y c e;rw[vZ g hp m<|by show scope.names.lookup y≠_;rw[k];decide]at q;exact q
 ·exact e0.hok.fresh (cW<|x.above y c<|cI h)
 ·unfold start;show _=N.length;rw[aV,aN,fX]
  lia
def QK{CX:Jm}{P:ah}{w:af}{K:aA}{mg:Str->bi}{base:au}{k:Nat}{f:aq}{kV pm ct:aa}
  {osl:Array<|bi} {N ps:ar} {sp:Sp} (lk:K.lookup f=some ⟨oc,od,.func<|PySem.W.fnOf name qual params body scope dV kV doc pm an cdv ct,osl⟩) (hcd:PySem.W.codeIn K cdv qual=true) (S:FnScope N ps scope)
  (len:∀vs H Q E,sp vs H Q E->vs.length=ps.length)
  (Z:∀(A:aC) (outer:List Env) (s:aE) (H:Hp) (vs:List V) (Q:VK) (E:XK),Room k (A.deeper<|envOfC qual scope s.heap.objs.size f cdv)->sp vs H Q E ->
   ∃t,xB (AF CX P w K mg base N qual scope f cdv A outer s H E) body t/\t { nx:=λ_ H'=>Q .non H',rt:=Q } (start N vs) H) :
  FnOk P w K mg base CX (k+1) f (PySem.W.fnOf name qual params body scope dV kV doc pm an cdv ct) ps sp:=by
 refine⟨len,λA outer s H G us vs Q E hr e0 hb r m=>?_⟩;have O:=len _ _ _ _ m;have C:K.In s.heap:=e0.mod.kin.keeps λb o e=>(e0.bs b o e).1;have z:s.heap.NoLimit:=e0.mod.nolimit.keeps λb o e=>(e0.bs b o e).1;have g:∀y∈ps.zip us,scope.names.lookup y.1=some .local\/(scope.names.lookup y.1=some .cell/\((cellsFrom (s.heap.objs.size+1) scope.names []).lookup y.1).isSome=true):=λ⟨n,v⟩ hy=>by
  rcases S.par n (iw hy).1 with q|q
  ·exact .inl q
  ·exact .inr ⟨q,eB _ _ _<|.inl q⟩
 refine codeAny_call_function hr.depth (C _ _ lk) rfl S.co S.gen rfl (PySem.W.codeRec_of C hcd)<|hb _ _ _ _ ?_;refine wpAny_newFunctionEnv_cells S.kind g λenv L F x=>?_;subst L;refine⟨z.keeps x.toInCall.keep,codeAny_func ?_⟩;obtain⟨t,M,U⟩:=Z A outer s H vs Q E (hr.deeper _) m;have I:Inv (AF CX P w K mg base N qual scope f cdv A outer s H E) [] (start N vs) H F:=Ds S hr.hd e0 O r x;refine dm (M [] F (start N vs) H _ I U) (λfl s' hs=>?_) λe s' hs=>hs;have j:∀{d:St} {H':Hp} {v:V} {u:aa},Inv (AF CX P w K mg base N qual scope f cdv A outer s H E) [] d H' s'->RelV v u->Q v H'->CE outer P w H s Q u s':=
  λ{d H' v u} J B q=>⟨v,H',J.os,J.bare,J.base,J.hok,B,q⟩
 cases fl with
 | ret u=>
  obtain⟨v,d,H',J,B,q⟩:=hs;exact j J B q
 | next=>
  obtain⟨d,H',J,q⟩:=hs;exact j (v:=V.non) (u:=Value.none) J rfl q
 | brk=>
  obtain⟨_,_,_,q⟩:=hs;exact False.elim q
 | cont=>
  obtain⟨_,_,_,q⟩:=hs;exact False.elim q
section
variable {X:Cx}{x:Str}{p pos:Pos}{e:aF}{es:List aF}{t:TA}{id T:String}{r:List V->Hp->VK->Prop}
abbrev SE (r:List V->Hp->VK->Prop)(t:TA):TE:=λσ H Q=>t σ H λd H1=>r d H1 Q
def Gg(hc:jj X (.builtin id) r)(hg:Gl X x)(hm:X.mg x=none)(hv:bootBuiltins x=some (.builtin id))(L:PA X (e::es) t)(hn:x ≠ "__name__"<|>δ)(j:(x == ("__debug__" : Str))=false<|>δ)
  (M:starEach (e::es) X.env=(false,eval e X.env)::starEach es X.env<|>ε) (J:((backTo pos<|starEach es X.env).any (·.1)=false)<|>ε):PE X (.Call (.Name x p) (e::es) [] pos) (SE r t):=by
 w_up;refine gH<|pQ I hg hm hv ?_ hn j;exact PyProof.Rows.callWith_builtin1 (jz (L pos pins s σ H _ I h) λus d ⟨g,H1,I1,r1,f⟩=>hc pins d σ H1 g us Q I1 r1 f) M J
def Dy(hc:jj X (.type T) r)(hg:Gl X x)(hm:X.mg x=none)(hv:bootBuiltins x=some (.type T))(L:PA X (e::es) t)(hn:x ≠ "__name__"<|>δ)(j:(x == ("__debug__" : Str))=false<|>δ)
  (M:starEach (e::es) X.env=(false,eval e X.env)::starEach es X.env<|>ε) (J:((backTo pos<|starEach es X.env).any (·.1)=false)<|>ε):PE X (.Call (.Name x p) (e::es) [] pos) (SE r t):=by
 w_up;refine gH<|pQ I hg hm hv ?_ hn j;exact cJ (jz (L pos pins s σ H _ I h) λus d ⟨g,H1,I1,r1,f⟩=>hc pins d σ H1 g us Q I1 r1 f) M J
end
end L2
namespace HT
open PySem PyProof.Rows
abbrev lexLt:ag->ag->Bool
 | [],[]=>false
 | [],_::_=>true
 | _::_,[]=>false
 | x::xs,y::ys=>if x=y then lexLt xs ys else decide (x<y)
section
variable {prog:ah}{w:af}{A:aC}{E:aa->aE->Prop}{s:aE}
def KQ{t:aq}{vs ws:ba}{Q:aa->aE->Prop}(J:IsTup s.heap t vs.toArray)(hb:IsTup s.heap b ws.toArray)(hv:vs≠[])
  (h1:ws=[]->Q (.ref t) s) (h2:ws≠[]->Q (.ref s.heap.objs.size) { s with heap:=s.heap.push { cls:=.type "tuple",data:=.seq (vs++ws).toArray }})
  (hsz:vs.length+ws.length<=sizeLine):wpAny (model prog w) A (binaryOp .Add (.ref t)<|.ref b) Q E s:=by
 obtain⟨⟨cls,dd,data,C⟩,m,hc,n,hd⟩:=id J;obtain⟨⟨B,f,z,g⟩,d,j,F,k⟩:=id hb;simp only at hc hd j k;subst hc hd j k;have e:vs.toArray++ws.toArray=(vs++ws).toArray:=by simp
 by_cases hw:ws=[]
 ·exact concat_meets ⟨_,m,rfl⟩ ⟨_,d,rfl⟩ noFill_tuple_add seq_tuple_add fO fK (fB _ _)
   (tuple_addW1 t b vs.toArray ws.toArray n F dd f C g (by simpa using hv)<|by simp[hw]) ⟨m,d,h1 hw⟩
 ·refine concat_meets ⟨_,m,rfl⟩ ⟨_,d,rfl⟩ noFill_tuple_add seq_tuple_add fO fK (fB _ _)
   (tuple_addW2 t b vs.toArray ws.toArray n F dd f C g (by simpa using hv) (by simpa using hw)<|by rw[aX,aX];exact hsz) ⟨m,d,?_⟩
  rw[e];exact h2 hw
abbrev kW (n d:Nat):bj->Nat
 | none=>d
 | some v=>if v<0 then(v+(n:Int)).toNat else min v.toNat n
def EO(n d:Nat):kW n d none=d:=rfl
def Kf(n d k:Nat):kW n d (some (k:Int))=min k n:=by
 show(if (k:Int)<0 then((k:Int)+(n:Int)).toNat else min (k:Int).toNat n)=min k n;rw[aU (),gQ]
def OG(n d:Nat)(hd:d<=n)(o:bj):kW n d o<=n:=by
 cases o with
 | none=>exact hd
 | some v=>
  show(if v<0 then(v+(n:Int)).toNat else min v.toNat n)<=n;by_cases hv:v<0
  ·rw[aS hv];lia
  ·rw[aU hv];exact Nat.min_le_right _ _
def CZ(v:Int)(n d:Nat):(if v<0 then max (v+(n:Int)) 0 else min v (n:Int))=((kW n d (some v):Nat):Int):=by
 show(if v<0 then max (v+(n:Int)) 0 else min v (n:Int))=(((if v<0 then(v+(n:Int)).toNat else min v.toNat n):Nat):Int);by_cases hv:v<0
 ·dsimp[aS hv];lia
 ·dsimp[aU hv];lia
def zP(lo hi:bj)(n:Nat):Builtin.Slice.sliceAdjust lo hi 1 (n:Int)=(((kW n 0 lo:Nat):Int),((kW n n hi:Nat):Int)):=by
 have h1:¬((1:Int)<0):=()
 unfold Builtin.Slice.sliceAdjust;dsimp[h1,c_];refine iz ?_ ?_
 ·cases lo with
  | none=>rfl
  | some v=>exact CZ v n 0
 ·cases hi with
  | none=>rfl
  | some v=>exact CZ v n n
def AK(i j:Nat):Builtin.Slice.slicePlaces (i:Int) (j:Int) 1=j-i:=by
 unfold Builtin.Slice.slicePlaces;have h1:(1:Int)>0:=()
 dsimp[h1,eE,ediv_one];split<;>lia
def uw{v:aa}{Q:bj->aE->Prop}(p:IsPart v o)(h:Q o s):wpAny (model prog w) A (Builtin.Slice.slicePartIndex v) Q E s:=by
 cases p with
 | none=>exact slicePart_none h
 | int i t=>exact slicePart_int h
def sN{vl:aa}{lo hi:bj}{n:Nat}{Q:Int×Int×Nat->aE->Prop}(hs:s.heap.IsSliceOf sl vl vu .none)(j:IsPart vl lo)(J:IsPart vu hi)
  (h:Q (((kW n 0 lo:Nat):Int),1,kW n n hi-kW n 0 lo) s):wpAny (model prog w) A (Builtin.Slice.sliceApplied (.ref sl)<|pure (n:Int)) Q E s:=by
 obtain⟨os,d,f,hds⟩:=id hs;unfold Builtin.Slice.sliceApplied Builtin.Slice.sliceFields;refine aJ<|aJ<|gn d hds (x:=vl) rfl<|aJ<|gn d hds (x:=vu) rfl<|aJ<|gn d hds (x:=.none) rfl<|aP ?_;refine aJ (slicePart_none ?_)
 skip
 rw[aU ⋯];refine aJ<|uw j<|aJ<|uw J<|aJ<|aP ?_;show wpAny _ _ (match Builtin.Slice.sliceAdjust lo hi 1 (n:Int)with|(lo,hi)=>pure (lo,(1:Int),Builtin.Slice.slicePlaces lo hi 1)) _ _ s;rw[zP lo hi n];show wpAny _ _ (pure (((kW n 0 lo:Nat):Int),(1:Int),Builtin.Slice.slicePlaces ((kW n 0 lo:Nat):Int) ((kW n n hi:Nat):Int) 1)) _ _ s;rw[AK];exact aP h
def Gd(xs:Array aa)(i k:Nat):((List.range k).filterMap λ(m:Nat)=>xs[((i:Int)+(m:Int) * 1).toNat]?).toArray=((xs.toList.drop i).take k).toArray:=by
 have e:(λ(m:Nat)=>xs[((i:Int)+(m:Int) * 1).toNat]?)=λm=>xs[i+m]?:=by
  funext m
  have:((i:Int)+(m:Int) * 1).toNat=i+m:=()
  rw[this]
 rw[e];have:=pick_run xs i k;rw[List.filterMap_map]at this;have e2:((λx=>xs[x]?) ∘ λx=>i+x)=λm=>xs[i+m]?:=rfl;rw[e2]at this;rw[this]
def rV{t:aq}{J:Array aa}{vl:aa}{lo hi:bj}{Q:aa->aE->Prop}(L:IsTup s.heap t J)(hs:s.heap.IsSliceOf sl vl vu .none)(M:IsPart vl lo)(U:IsPart vu hi)
  (hw:¬(kW J.size 0 lo=0/\kW J.size J.size hi=J.size))
  (h:Q (.ref s.heap.objs.size) { s with heap:=s.heap.push { cls:=.type "tuple",data:=.seq ((J.toList.drop<|kW J.size 0 lo).take<|kW J.size J.size hi-kW J.size 0 lo).toArray }})
  (hsz:J.size<=sizeLine):wpAny (model prog w) A (getItem (.ref t)<|.ref sl) Q E s:=by
 have d:sizeOk (.seq ((J.toList.drop<|kW J.size 0 lo).take<|kW J.size J.size hi-kW J.size 0 lo).toArray):=by
  show((J.toList.drop<|kW J.size 0 lo).take<|kW J.size J.size hi-kW J.size 0 lo).toArray.size<=sizeLine;rw[aX,b_,dY,b7];omega
 have B:kW J.size J.size hi<=J.size:=OG _ _ (aO _) hi;obtain⟨os,g,f,hds⟩:=id hs;have k:s.TypeIs (.ref sl) "slice" := ⟨os,g,f⟩;unfold getItem
 try with_reducible refine cP ?_
 first|refine aJ (aP ?_)|skip
 refine aJ<|wpAny_sequenceKey L.typeIs ⋯ ?_;refine aJ (dZ (name:=Str.ofString "__getitem__") L.typeIs b6
  (d7 b6 L.typeIs entry_tuple_getitem ?_<|args_tuple_getitem _ _))
 show wpAny _ _ (Builtin.Tuple.tupleItemsOf (.ref t) >>= _) _ _ s;refine aJ<|tupleItemsOf_ L ?_;refine aJ<|wpAny_typeOf k ?_;rw[aS ⋯];refine aJ<|sN hs M U ?_;have j:¬((((kW J.size 0 lo:Nat):Int) == 0 && (1:Int) == 1 && (kW J.size J.size hi-kW J.size 0 lo) == J.size)=true):=by
  intro q;rw[bZ,bZ]at q;have C:((kW J.size 0 lo:Nat):Int)=0:=eq_of_beq q.1.1;have z:kW J.size J.size hi-kW J.size 0 lo=J.size:=eq_of_beq q.2;exact hw ⟨by omega,by omega⟩
 show wpAny _ _ (if (((kW J.size 0 lo:Nat):Int) == 0 && (1:Int) == 1 && (kW J.size J.size hi-kW J.size 0 lo) == J.size)=true then _ else _) _ _ s;rw[aU j,Gd]
 first
  | exact aJ (m:=Builtin.Tuple.tupleExact _) (bU (aP ⟨_,rfl,aP h⟩) d)
  | exact aJ (m:=Builtin.Tuple.tupleExact _) (bU (aJ<|aP<|aP ⟨_,rfl,aP h⟩) d)
  | exact aJ (aJ (m:=Builtin.Tuple.tupleExact _)<|bU (aP<|aP ⟨_,rfl,aP h⟩) d)
  | exact aJ<|aJ (m:=Builtin.Tuple.tupleExact _)<|bU (aP ⟨_,rfl,aP h⟩) d
end
end HT
namespace L2
open PySem PySem.Spec PyProof.Rows
meta abbrev TO:=St->Hp->(bj->Hp->Prop)->Prop
abbrev PO (X:Cx)(e:Option aF)(t:TO):Prop:=
 ∀(pins:bt) (s:aE) (σ:St) (H:Hp) (Q:bj->Hp->Prop),Inv X pins σ H s->t σ H Q ->
  wpAny (model X.prog X.w) X.A (evalPart e X.env) (λu s'=>∃o H',Inv X pins σ H' s'/\IsPart u o/\Q o H') X.xe s
abbrev JD:TO:=λ_ H Q=>Q none H
abbrev O0 (t:TE):TO:=λσ H Q=>t σ H λx H1=>∃i,x=.int i/\Q (some i) H1
def intsAre_of{ns:ag}:∀{us:ba},Vals (ns.map V.int) us->IntsAre us ns:=by
 induction ns with
 | nil=>intro us r;rw[dM]at r;cases r;exact .nil
 | cons n ns d=>
  intro us r;rw[bD]at r
  cases r with
  | cons r1 r2=>
   obtain⟨t,e⟩:=r1;subst e;exact .cons n t<|d r2
section
variable {X:Cx}{e:aF}{te:TE}{lo hi:Option aF}{tl th:TO}{pos p2:Pos}
def KS:PO X none JD:=by
 w_up;rw[gX];exact aP ⟨none,H,I,.none,h⟩
def JQ(h:PE X e te):PO X (some e) (O0 te):=by
 intro pins s σ H Q I hw;rw[evalPart_some];refine jz (h pins s σ H _ I hw) λu f ⟨x,H1,I1,r1,d⟩=>?_;obtain⟨i,rfl,q⟩:=d;obtain⟨t,rfl⟩:=r1;exact⟨some i,H1,I1,.int i t,q⟩
abbrev QU (X:Cx)(r:V->bj->bj->Hp->VK->Prop):Prop:=
 ∀(pins:bt) (s:aE) (σ:St) (H:Hp) (x:V) (v vl d:aa) (lo hi:bj) (f:aq) (Q:VK),Inv X pins σ H s->RelV x v->s.heap.IsSliceOf f vl d .none->IsPart vl lo->IsPart d hi->r x lo hi H Q ->
  ∃T id,typeLookup (.type T) "__getitem__" = pure (some<|.builtin id)/\s.TypeIs v T/\wpAny (model X.prog X.w) X.A (getItem v<|.ref f) (EP X pins σ Q) X.xe s
abbrev Ua (r:V->bj->bj->Hp->VK->Prop)(te:TE)(tl th:TO):TE:=λσ H Q=>te σ H λx H1=>tl σ H1 λl H2=>th σ H2 λu d=>r x l u d Q
def Im{r:V->bj->bj->Hp->VK->Prop}(hr:QU X r)(J:PE X e te)(L:PO X lo tl)(M:PO X hi th):PE X (.Subscript e (.Slice lo hi none p2) pos) (Ua r te tl th):=by
 w_up;refine Subscript_<|jz (J pins s σ H _ I h) λv m ⟨x,H1,I1,r1,z⟩=>?_;refine wpAny_Slice<|jz (L pins m σ H1 _ I1 z) λvl j ⟨l,H2,B,C,t⟩=>jz (M pins j σ H2 _ B t) λf d ⟨u,g,I3,F,k⟩=>?_;rw[gX];refine aP ?_;have G:Inv X pins σ g { d with heap:=d.heap.push { cls:=.type "slice",data:=.fields #[vl,f,.none]}}:=I3.kept (t':=d.toks) λb ob q=>aQ _ q;obtain⟨T,id,hT,ht,hg⟩:=hr pins { d with heap:=d.heap.push { cls:=.type "slice",data:=.fields #[vl,f,.none]}} σ g x v vl f l u d.heap.objs.size Q G r1 (gI ..) C F k
 skip
 exact tail_any (ops:=[.ref d.heap.objs.size,v]) ht hT hg<|by with_unfolding_all rfl
abbrev x_ (xs:List V)(lo hi:bj):List V:=(xs.drop<|HT.kW xs.length 0 lo).take<|HT.kW xs.length xs.length hi-HT.kW xs.length 0 lo
def tH(xs:List V)(lo hi:bj):(x_ xs lo hi).length<=xs.length:=by
 unfold x_;rw[b_,dY]
 lia
abbrev Ry (K:aA):V->bj->bj->Hp->VK->Prop:=λx lo hi H Q=>∃a xs,x=.ref a/\l7 K H a xs /\
 ¬(HT.kW xs.length 0 lo=0/\HT.kW xs.length xs.length hi=xs.length)/\∀p,H p=none->Q (.ref p) (upd H p<|.tup<|x_ xs lo hi)
def Nt:QU X (Ry X.K):=by
 intro pins s σ H x v vl t lo hi z Q I rx hs k m h;obtain⟨a,xs,rfl,hx,hw,q⟩:=h
 cases rx
 obtain⟨f,r,g,j⟩:=I.tuple hx;have d:f.toArray.size=xs.length:=by rw[aX];exact r.length.symm
 refine⟨"tuple",_,b6.lookup,g.typeIs,?_⟩;refine HT.rV g hs k m (by rw[d];exact hw) ?_ (by rw[d];exact j);rw[d];refine⟨.ref s.heap.objs.size,_,I.laid (t':=s.toks) (o:=.tup<|x_ xs lo hi) (λb ob q=>aQ _ q) (aO _) ?_,rfl,q _<|I.hok.fresh<|aO _⟩;exact⟨bC (tH xs lo hi) j,_,(r.drop<|HT.kW xs.length 0 lo).take<|HT.kW xs.length xs.length hi-HT.kW xs.length 0 lo,mK.new _ _⟩
abbrev PJ (K:aA):R2:=λx y H Q=>∃a b xs ys,x=.ref a/\y=.ref b/\l7 K H a xs/\l7 K H b ys/\xs≠[]/\xs.length+ys.length<=sizeLine /\
 (ys=[]->Q (.ref a) H)/\(ys≠[]->∀p,H p=none->Q (.ref p) (upd H p<|.tup<|xs++ys))
def Vals.xP(r:Vals xs us):us=[] ↔ xs=[]:=by
 cases r with
 | nil=>simp
 | cons _ _=>simp
def Kr:l8 X (binaryOp .Add) (PJ X.K):=by
 kcj_m;obtain⟨a,b,xs,ys,rfl,rfl,g,hb,hx,d,m,k⟩:=h
 cases rx
 cases ry
 obtain⟨j,r1,p1,_⟩:=I.tuple g;obtain⟨f,r2,p2,_⟩:=I.tuple hb;refine HT.KQ p1 p2 (λz=>hx<|r1.xP.mp z) (λz=>⟨.ref a,H,I,rfl,m<|r2.xP.mp z⟩) (λz=>?_) (by rw[<- r1.length,<- r2.length];exact d);refine⟨.ref s.heap.objs.size,_,I.laid (t':=s.toks) (o:=.tup<|xs++ys) (λb ob q=>aQ _ q) (aO _) ?_,rfl,k (λw=>z<|r2.xP.mpr w) _<|I.hok.fresh<|aO _⟩;exact⟨by rw[aV];exact d,_,r1.append r2,mK.new _ _⟩
end
abbrev zL (n:Nat)(i:Int):bo:=if 0<=i then(if i<n then some i.toNat else none)else if -(n:Int)<=i then some (i+n).toNat else none
abbrev oY {α:Type}(xs:List α)(i:Int):Option α:=(zL xs.length i).bind λj=>xs[j]?
def BP{n:Nat}{i:Int}(h:zL n i=some j):seqIndex? i n=some j/\j<n/\-(n:Int)<=i/\i<n:=by
 unfold zL at h;by_cases h0:0<=i
 ·rw[aS h0]at h;by_cases h1:i<n
  ·rw[aS h1]at h;have e:i.toNat=j:=aW h;exact⟨by rw[seqIndex_of h0 h1,e],(),(),h1⟩
  ·rw[aU h1]at h;cases h
 ·rw[aU h0]at h;by_cases h1:-(n:Int)<=i
  ·rw[aS h1]at h;have e:(i+n).toNat=j:=aW h;exact⟨by rw[seqIndex_neg () h1,e],(),h1,()⟩
  ·rw[aU h1]at h;cases h
def wO{α:Type}{xs:List α}{i:Int}{v:α}(h:oY xs i=some v):∃j,seqIndex? i xs.length=some j/\xs[j]?=some v/\j<xs.length/\-(xs.length:Int)<=i/\i<xs.length:=by
 unfold oY at h
 cases e:zL xs.length i with
 | none=>rw[e]at h;cases h
 | some j=>
  rw[e]at h;obtain⟨h1,h2,d,f⟩:=BP e;exact⟨j,h1,h,h2,d,f⟩
def Lb{α:Type}{xs:List α}{j:Nat}{v:α}(h:xs[j]?=some v):oY xs (j:Int)=some v:=by
 have d:j<xs.length:=(aL.mp h).1;have e:zL xs.length (j:Int)=some j:=by
  unfold zL;rw[aS (),aS ()];simp
 unfold oY;rw[e];exact h
abbrev uf (b:aF):Prop:=∀o i,subscripted b false o i=operate [o,i] (getItem o i)
abbrev LV (X:Cx)(r:R2):Prop:=
 ∀(f d:aF) (pins:bt) (s:aE) (σ:St) (H:Hp) (x y:V) (v u:aa) (Q:VK),Inv X pins σ H s->RelV x v->RelV y u->r x y H Q ->
  subscripted d false v u=operate [v,u] (getItem v u)->wpAny (model X.prog X.w) X.A (subscriptTail f d v u) (EP X pins σ Q) X.xe s
abbrev Mc (X:Cx)(id:String)(r:V->List V->Hp->VK->Prop):Prop:=
 ∀(pins:bt) (s:aE) (σ:St) (H:Hp) (x:V) (xs:List V) (v:aa) (us:ba) (Q:VK),Inv X pins σ H s->RelV x v->Vals xs us->r x xs H Q ->
  wpAny (model X.prog X.w) X.A (call (.builtin id) (v::us)) (EP X pins σ Q) X.xe s
section
variable {X:Cx}{a b:aF}{ta tb:TE}{pos:Pos}
def E5{r:R2}(hr:LV X r)(j:PE X a ta)(hb:PE X b tb)(hs:uf b):PE X (.Subscript a b pos) (Qn r ta tb):=by
 w_up;exact Subscript_<|N5 j hb I h λv u d x y H2 f rx ry q=>hr a b pins d σ H2 x y v u Q f rx ry q<|hs _ _
abbrev RY (K:aA):R2:=λx y H Q=>∃p xs i v,x=.ref p/\y=.int i/\j5 K H p xs/\oY xs i=some v/\Q v H
abbrev SK (K:aA):R2:=λx y H Q=>∃p xs i v,x=.ref p/\y=.int i/\l7 K H p xs/\oY xs i=some v/\Q v H
abbrev RH:R2:=λx y H Q=>∃z i c,x=.str z/\y=.int i/\z.length<=sizeLine/\oY z.cps.toList i=some c/\Q (.str ⟨#[c]⟩) H
def BZ:LV X (RY X.K):=by
 intro g B pins s σ H x y v u Q I rx ry h hs;obtain⟨p,xs,i,z,rfl,rfl,N,G,q⟩:=h
 cases rx
 obtain⟨t,rfl⟩:=ry;obtain⟨f,r,m,O⟩:=I.list N;obtain⟨j,h1,h2,P,L,J⟩:=wO G;obtain⟨w,F,k⟩:=r.get h2;have M:=r.length;have hn:=sL;have d:EP X pins σ Q w s:=⟨z,H,I,k,q⟩;by_cases h0:0<=i
 ·have C:i.toNat=j:=by
   rw[seqIndex_of h0 J]at h1;exact aW h1
  exact item_listR m.isList h0 () (by rw[C];simpa using F) d hs
 ·have C:(i+(f.toArray.size:Int)).toNat=j:=by
   rw[seqIndex_neg () L]at h1;rw[aX,<- M];exact aW h1
  exact subscriptTail_builtinR (x:=w) m.isList.typeIs gR.lookup
   (wpAny_getItem_list_neg (Q:=λr s'=>r=w/\EP X pins σ Q r s') m.isList () (by rw[aX]<;>lia) () (by rw[C];simpa using F) ⟨rfl,d⟩) hs
def Ox:LV X (SK X.K):=by
 intro d g pins s σ H x y v u Q I rx ry h hs;obtain⟨p,xs,i,z,rfl,rfl,J,C,q⟩:=h
 cases rx
 obtain⟨t,rfl⟩:=ry;obtain⟨B,r,m,N⟩:=I.tuple J;obtain⟨j,h1,h2,O,M,L⟩:=wO C;obtain⟨w,F,f⟩:=r.get h2;have G:=r.length;have hn:=sL;have k:EP X pins σ Q w s:=⟨z,H,I,f,q⟩;exact subscriptTail_builtinR (x:=w) m.typeIs slot_tuple_getitem.lookup
  (getItem_tuple (j:=j) (Q:=λr s'=>r=w/\EP X pins σ Q r s') m () () (by rw[aX,<- G];exact h1) (by simpa using F) ⟨rfl,k⟩) hs
def Nu:LV X RH:=by
 intro d f pins s σ H x y v u Q I rx ry h hs;obtain⟨z,i,c,rfl,rfl,F,g,q⟩:=h;obtain⟨t,rfl⟩:=rx;obtain⟨C,rfl⟩:=ry;obtain⟨j,h1,h2,G,m,k⟩:=wO g;have B:z.cps.toList.length=z.length:=by simp[Str.length]
 rw[B]at h1 m k;have hn:=sL;exact tail_any (typeIs_str s z t) slot_str_getitem.lookup (getItem_str (c:=c) (by
  have e1:decide (i < -(2 ^ 63:Int))=false:=bx ();have e2:decide (i>=2 ^ 63)=false:=bx ();rw[e1,e2,Bool.or_false]) (by rw[h1];simpa using h2) ⟨.str ⟨#[c]⟩,H,I.tok _,⟨_,rfl⟩,q⟩) hs
def z9(its:ba)(n j:Nat)(u:aa):Obj.mapSeq (·.setIfInBounds j u) { cls:=.type "list",data:=.seq its.toArray n }={ cls:=.type "list",data:=.seq (its.set j u).toArray n }:=by
 simp[Obj.mapSeq]
def Inv.lst{H:Hp}{s:aE}{p:aq}{xs:List V}(I:Inv X pins σ H s)(h:H p=some (.lst xs)) :
  ∃(its:ba) (n:Nat),Vals xs its/\s.heap.get? p=some { cls:=.type "list",data:=.seq its.toArray n }/\xs.length<=sizeLine:=by
 obtain⟨z,its,n,r,e⟩:=I.hok p _ h;exact⟨its,n,r,e,z⟩
def Inv.N6{H:Hp}{s:aE}{p:aq}{ys:List V}{its its':ba}{n:Nat}{f:Obj->Obj}(I:Inv X pins σ H s)(h:H p=some (.lst xs))
  (j:s.heap.get? p=some { cls:=.type "list",data:=.seq its.toArray n }) (hf:f { cls:=.type "list",data:=.seq its.toArray n }={ cls:=.type "list",data:=.seq its'.toArray n' }) (r:Vals ys its') (J:ys.length<=sizeLine) (t:Nat) :
  Inv X pins σ (upd H p<|.lst ys) { s with heap:=s.heap.update p f,toks:=t }:=by
 have e:(s.heap.update p f).get? p=some { cls:=.type "list",data:=.seq its'.toArray n' }:=by
  rw[fY f j<|by rw[hf]<;>rfl,hf]
 refine I.write (x:=p) (e:=p) (by rw[h];trivial) (.inl rfl) (λb u hb q=>(Heap.get?_update_other _ _<|cj hb).trans q) ⟨_,e⟩ ?_;exact⟨J,its',n',r,e⟩
abbrev P7:V->V->V->Hp->(Hp->Prop)->Prop:=λo i v H Q=>∃p xs k j,o=.ref p/\i=.int k/\H p=some (.lst xs)/\zL xs.length k=some j/\Q (upd H p<|.lst<|xs.set j v)
def set_list:Ja X P7:=by
 intro pins s σ H o i v M N u Q I G K L h;obtain⟨p,xs,k,j,rfl,rfl,hp,J,q⟩:=h
 cases G
 obtain⟨t,rfl⟩:=K;obtain⟨d,n,r,f,F⟩:=I.lst hp;obtain⟨h1,h2,C,B⟩:=BP J;have m:=r.length;have hn:=sL;have z:Inv X pins σ (upd H p<|.lst<|xs.set j v) { s with heap:=s.heap.update p<|Obj.mapSeq (·.setIfInBounds j u)}:=
  I.N6 hp f (z9 d n j u) (r.set L j) (by rw[bH];exact F) s.toks
 by_cases h0:0<=k
 ·have g:k.toNat=j:=by
   rw[seqIndex_of h0 B]at h1;exact aW h1
  exact PySem.W.ki_setAt f h0 () (by rw[aX,<- m];exact B)<|by rw[g];exact⟨_,z,q⟩
 ·have g:(k+(d.toArray.size:Int)).toNat=j:=by
   rw[seqIndex_neg () C]at h1;rw[aX,<- m];exact aW h1
  exact PySem.W.ki_setBack f () (by rw[aX,<- m];exact C) ()<|by rw[g];exact⟨_,z,q⟩
def xw(lo hi:bj)(n:Nat):(sliceBounds lo hi none n).1=((HT.kW n 0 lo:Nat):Int)/\(sliceBounds lo hi none n).2.1=((HT.kW n n hi:Nat):Int)/\(sliceBounds lo hi none n).2.2=1:=by
 refine⟨?_,?_,rfl⟩
 ·cases lo with
  | none=>simp[sliceBounds,HT.kW]
  | some i=>
   dsimp[sliceBounds,HT.kW,getD_none,show(1:Int)>0 by decide,eE];by_cases h:i<0
   ·dsimp[h,eE]<;>lia
   ·dsimp[h,c_]<;>lia
 ·cases hi with
  | none=>simp[sliceBounds,HT.kW]
  | some i=>
   dsimp[sliceBounds,HT.kW,getD_none,show(1:Int)>0 by decide,eE];by_cases h:i<0
   ·dsimp[h,eE]<;>lia
   ·dsimp[h,c_]<;>lia
def vJ(its:ba)(lo hi:bj):slicePick its.toArray lo hi none=((its.drop<|HT.kW its.length 0 lo).take<|HT.kW its.length its.length hi-HT.kW its.length 0 lo).toArray:=by
 obtain⟨h1,h2,d⟩:=xw lo hi its.toArray.size;unfold slicePick;rw[h1,h2,d];dsimp[sliceRange_one,pick_run,aX]<;>rfl
abbrev Rc (K:aA):V->bj->bj->Hp->VK->Prop:=λx lo hi H Q=>∃a xs,x=.ref a/\j5 K H a xs/\∀p,H p=none->Q (.ref p) (upd H p<|.lst<|x_ xs lo hi)
def CN:QU X (Rc X.K):=by
 intro pins s σ H x v vl t lo hi z Q I rx hs k m h;obtain⟨a,xs,rfl,hx,q⟩:=h
 cases rx
 obtain⟨g,r,f,j⟩:=I.list hx;have d:=r.length;refine⟨"list",_,gR.lookup,f.isList.typeIs,?_⟩;refine wpAny_getItem_list_slice f.isList hs k m .none (by simp) ?_ (by rw[aX]<;>lia);rw[vJ,<- d];refine⟨.ref s.heap.objs.size,_,I.laid (t':=s.toks) (o:=.lst<|x_ xs lo hi) (λb ob q=>aQ _ q) (aO _) ?_,rfl,q _<|I.hok.fresh<|aO _⟩;exact⟨bC (tH xs lo hi) j,_,0,(r.drop<|HT.kW xs.length 0 lo).take<|HT.kW xs.length xs.length hi-HT.kW xs.length 0 lo,bJ _ rfl⟩
def oG:jj X (.type "list") (λxs H Q=>∃p ys,xs=[.ref p]/\(j5 X.K H p ys\/l7 X.K H p ys)/\∀l,H l=none->Q (.ref l) (upd H l<|.lst ys)):=by
 kt_k;obtain⟨p,ys,rfl,k,q⟩:=h;kst_p
 cases rx
 have m:∀(d:ba),Vals ys d->ys.length<=sizeLine->∀(h':au) (g:Nat),(∀b o',s.heap.get? b=some o'->h'.get? b=some o') ->
   h'.get? s.heap.objs.size=some { cls:=.type "list",dict:=none,data:=.seq d.toArray g,slots:=#[]}->EP X pins σ Q (.ref s.heap.objs.size) { s with heap:=h' }:=λd f j h' g kp e=>
  ⟨.ref s.heap.objs.size,_,I.laid (t':=s.toks) kp (aO _)<|show jx X.prog X.w _ h' _ (.lst ys)from⟨j,d,g,f,e⟩,rfl,q _<|I.hok.fresh<|aO _⟩
 rcases k with k|k
 ·obtain⟨d,f,B,j⟩:=I.list k;have t:=f.length;obtain⟨o,z,hc,n,hd⟩:=B.isList;exact call_list_seq p (.inl rfl) z hc hd (λh' g kp e=>m d f j h' g kp e) (by dsimp[aX]<;>lia)
 ·obtain⟨d,f,B,j⟩:=I.tuple k;have t:=f.length;obtain⟨o,z,hc,n,hd⟩:=B;exact call_list_seq p (.inr rfl) z hc hd (λh' g kp e=>m d f j h' g kp e)<|by dsimp[aX]<;>lia
abbrev QB (K:aA)(T:String)(x:V)(H:Hp):Prop:=match x with
 | .str _=>T = "str"
 | .int _=>T = "int"
 | .ref p=>(T = "list" /\ ∃xs,j5 K H p xs)\/(T = "tuple" /\ ∃o,K.lookup p=some o/\o.cls=.type "tuple" /\ o.dict=none) \/
   (T = "dict" /\ ((∃kvs,H p=some (.dK kvs))\/∃kvs,H p=some (.dT kvs)))\/(T = "set" /\ ∃S n,H p=some (.set S n))
 | _=>False
def Gv{H:Hp}{s:aE}{x:V}{v:aa}(I:Inv X pins σ H s)(r:RelV x v)(ty:QB X.K T x H) :
  s.TypeIs v T/\∀a,v=.ref a->∃ob,s.heap.get? a=some ob/\ob.dict=none:=by
 cases x with
 | str z=>
  obtain⟨t,rfl⟩:=r
  cases(show T = "str" from ty)
  exact⟨typeIs_str s z t,nofun⟩
 | int i=>
  obtain⟨t,rfl⟩:=r
  cases(show T = "int" from ty)
  exact⟨typeIs_int s i t,nofun⟩
 | ref p=>
  cases r
  rcases ty with⟨rfl,xs,j⟩|⟨rfl,o,d,hc,hd⟩|⟨rfl,d⟩|⟨rfl,S,n,d⟩
  ·obtain⟨g,_,f,_⟩:=I.list j;refine⟨f.isList.typeIs,λa e=>?_⟩
   cases e
   obtain⟨o,n,e,c,hd,_⟩:=f;exact⟨o,e,hd⟩
  ·refine⟨⟨o,I.xY p o d,hc⟩,λa e=>?_⟩
   cases e
   exact⟨o,I.xY _ o d,hd⟩
  ·have z:∃o,s.heap.get? p=some o/\o.ExactDict:=by
    rcases d with⟨kvs,d⟩|⟨kvs,d⟩
    ·obtain⟨_,_,_,_,o,_,_,e,ex,_⟩:=I.hok p _ d;exact⟨o,e,ex⟩
    ·obtain⟨_,_,_,_,o,_,_,e,ex,_⟩:=I.hok p _ d;exact⟨o,e,ex⟩
   obtain⟨o,e,ex⟩:=z;refine⟨⟨o,e,ex.1⟩,λa e2=>?_⟩
   cases e2
   exact⟨o,e,ex.2.1⟩
  ·obtain⟨o,_,_,_,e,ex,_⟩:=I.hok p _ d;refine⟨⟨o,e,ex.1⟩,λa e2=>?_⟩
   cases e2
   exact⟨o,e,ex.2.1⟩
 | _=>exact False.elim ty
abbrev RA (K:aA)(T:String)(r:V->List V->Hp->VK->Prop)(to:TE):TE:=λσ H Q=>to σ H λx H1=>QB K T x H1/\r x [] H1 Q
abbrev T6 (K:aA)(T:String)(r:V->List V->Hp->VK->Prop)(to:TE)(t:TA):TE:=λσ H Q=>to σ H λx H1=>QB K T x H1/\t σ H1 λxs H2=>r x xs H2 Q
variable {o e:aF}{es:List aF}{to:TE}{t:TA}{name:Str}{apos cpos:Pos}{T id:String}{r:V->List V->Hp->VK->Prop}
def Nb(M:PlainAttrs T)(slot:Slot T name id)(L:typeOf (.builtin id)=pure (.type "method_descriptor"))(hm:Mc X id r)(U:PE X o to)
  (j:attributeBase o name X.env (eval o X.env)=eval o X.env<|>ε) (J:(apos.endLine == cpos.line)=true<|>ε):PE X (.Call (.Attribute o name apos) [] [] cpos) (RA X.K T r to):=by
 w_up;refine wpAny_Call_method0_late j J<|jz (U pins s σ H _ I h) λv d ⟨x,H1,I1,r1,ty,f⟩=>?_;obtain⟨h1,h2⟩:=Gv I1 r1 ty;exact⟨T,id,M,slot,L,h1,h2,Calls.callWith_builtin rfl<|PySem.evalArgs_none<|hm pins d σ H1 x [] v [] Q I1 r1 .nil f⟩
def LQ(pa:PlainAttrs T)(slot:Slot T name id)(Z:typeOf (.builtin id)=pure (.type "method_descriptor"))(hm:Mc X id r)(ho:PE X o to)(ha:PA X (e::es) t)
  (L:attributeBase o name X.env (eval o X.env)=eval o X.env<|>ε)
  (U:(((backTo cpos<|starEach (e::es) X.env).all (λx=>!x.1) && (backToKw cpos<|keywordEach [] X.env).all (λx=>x.1.isSome)
   && decide ((e::es).length+([]:List Keyword).length+(if ([]:List Keyword).isEmpty then 0 else 1)<30))=true)<|>ε)
  (M:(apos.endLine == cpos.line)=true<|>ε) (hs:starEach (e::es) X.env=(false,eval e X.env)::starEach es X.env<|>ε) (J:((backTo cpos<|starEach es X.env).any (·.1)=false)<|>ε) :
  PE X (.Call (.Attribute o name apos) (e::es) [] cpos) (T6 X.K T r to t):=by
 w_up;refine wpAny_Call_method_late L U M rfl<|jz (ho pins s σ H _ I h) λv f ⟨x,H1,I1,r1,ty,m⟩=>?_;obtain⟨h1,h2⟩:=Gv I1 r1 ty;refine⟨T,id,pa,slot,Z,h1,h2,?_⟩;have d:=ha cpos pins f σ H1 _ I1 m;rw[hs]at d ⊢;refine Calls.callWith_builtin (by show(false || (backTo cpos<|starEach es X.env).any (·.1))=false;rw[J]<;>rfl)<|Calls.evalArgs_plain ?_;exact jz d λus k ⟨g,H2,z,r2,j⟩=>hm pins k σ H2 x g v us Q z r1 r2 j
end
abbrev Se (X:Cx)(id:String)(r:V->List V->Hp->VK->Prop):Prop:=
 ∀(pins:bt) (s:aE) (σ:St) (H:Hp) (x:V) (xs:List V) (v:aa) (us:ba) (Q:VK),Inv X pins σ H s->RelV x v->Vals xs us->r x xs H Q ->
  wpAny (model X.prog X.w) X.A (call (.builtin id) (v::us)) (EP X pins σ Q) X.xe s
def Vals.one:∀{x:V}{us:ba},Vals [x] us->∃u,us=[u]/\RelV x u
 | _,_,.cons r .nil=>⟨_,rfl,r⟩
def Vals.zero:∀{us:ba},Vals [] us->us=[]
 | _,.nil=>rfl
def Vals.dropLast{xs:List V}{us:ba}(h:Vals xs us):Vals xs.dropLast us.dropLast:=by
 induction h with
 | nil=>exact .nil
 | cons r t d=>
  cases t with
  | nil=>exact .nil
  | cons q f=>exact .cons r d
def Vals.reverse{xs:List V}{us:ba}(h:Vals xs us):Vals xs.reverse us.reverse:=by
 induction h with
 | nil=>exact .nil
 | cons r t d=>rw[fQ,fQ];exact Vals.append d<|.cons r .nil
theorem Vals.rep(h:Vals xs us):∀k:Nat,Vals (List.replicate k xs).flatten (List.replicate k us).flatten
 | 0=>.nil
 | k+1=>by
  rw[cQ,cQ,bS,bS];exact Vals.append h<|Vals.rep h k
def Ao{α:Type}(l:List α):l.eraseIdx (l.length-1)=l.dropLast:=by
 induction l with
 | nil=>rfl
 | cons a r d=>
  cases r with
  | nil=>rfl
  | cons b r=>
   have e:(a::b::r).length-1=((b::r).length-1)+1:=by
    have h1:(a::b::r).length=r.length+2:=rfl;have h2:(b::r).length=r.length+1:=rfl
    lia
   rw[e,List.eraseIdx_cons_succ,d]
   all_goals rfl
theorem foldl_rep(its:ba):∀(k:Nat) (acc:ba),
  List.foldl (λx1 x2=>x1++x2) acc.toArray (List.replicate k its.toArray)=(acc++(List.replicate k its).flatten).toArray
 | 0,acc=>by simp
 | k+1,acc=>by
  have e:acc.toArray++its.toArray=(acc++its).toArray:=by simp
  have e2:(acc++its)++(List.replicate k its).flatten=acc++(List.replicate (k+1) its).flatten:=by
   rw[cQ,bS,br]
  rw[<- e2,<- foldl_rep its k (acc++its),<- e,cQ,List.foldl_cons]
section
variable {X:Cx}{pins:bt}{σ:St}{H:Hp}{s:aE}{l:aq}{xs ys:List V}
def Inv.QC{its its':ba}{n:Nat}{f:Array aa->Array aa}{t':Nat}(I:Inv X pins σ H s)(j:H l=some (.lst xs))
  (e:s.heap.get? l=some { cls:=.type "list",data:=.seq its.toArray n }) (hf:f its.toArray=its'.toArray) (hv:Vals ys its') (J:ys.length<=sizeLine) :
  Inv X pins σ (upd H l<|.lst ys) { s with heap:=s.heap.update l<|Obj.mapSeq f,toks:=t' }:=by
 have q:=PySem.IsL.update e f;rw[hf]at q;refine I.write (x:=l) (e:=l) (by rw[j];exact trivial) (.inl rfl) (λg u hb d=>(Heap.get?_update_other s.heap (Obj.mapSeq f)<|cj hb).trans d) ⟨_,q⟩ ?_;exact⟨J,its',_,hv,q⟩
def Inv.Fq{its:ba}{t':Nat}(I:Inv X pins σ H s)(hv:Vals ys its)(j:ys.length<=sizeLine) :
  Inv X pins σ (upd H s.heap.objs.size<|.lst ys) { s with heap:=s.heap.push { cls:=.type "list",data:=.seq its.toArray },toks:=t' }:=
 I.laid (λ_ _ q=>aQ _ q) (aO _) ⟨j,its,0,hv,bJ _ rfl⟩
def Inv.fresh(I:Inv X pins σ H s):H s.heap.objs.size=none:=I.hok.fresh<|aO _
def Inv.IP(I:Inv X pins σ H s)(j:H l=some (.lst xs)):xs.length<=sizeLine/\∃(its:ba) (n:Nat),Vals xs its/\xs.length=its.length/\s.heap.get? l=some { cls:=.type "list",data:=.seq its.toArray n }:=by
 obtain⟨z,its,n,r,e⟩:=I.hok l _ j;exact⟨z,its,n,r,r.length,e⟩
def GY{n:Nat}(h:n<=sizeLine):Builtin.List.listTooLong n=false:=by
 unfold Builtin.List.listTooLong;exact bx ()
end
section
variable {X:Cx}
abbrev JB:V->List V->Hp->VK->Prop:=λx d H Q=>∃l xs y,x=.ref l/\d=[y]/\H l=some (.lst xs)/\xs.length<sizeLine/\Q .non (upd H l<|.lst<|xs++[y])
def sS:Se X "list.append" JB:=by
 intro pins s σ H x m v us Q I rx j h;obtain⟨l,xs,y,rfl,rfl,f,k,q⟩:=h
 cases rx
 obtain⟨u,rfl,g⟩:=j.one;obtain⟨z,d,n,r,t,e⟩:=I.IP f;refine call_meets F.slot_list_append ⟨_,e,rfl⟩ F.entry_list_append (F.args_list_append_2 _ _) (PySem.list_append l d.toArray n u<|by rw[aX];lia) ⟨e,?_⟩;refine⟨.non,_,I.QC (its':=d++[u]) f e (by simp) (r.append<|.cons g .nil) ?_,rfl,q⟩;rw[aV,List.length_singleton]
 lia
abbrev Sl:V->List V->Hp->VK->Prop:=λx d H Q=>∃l xs y,x=.ref l/\d=[]/\H l=some (.lst xs)/\xs[xs.length-1]?=some y/\Q y (upd H l<|.lst xs.dropLast)
def N9:Se X "list.pop" Sl:=by
 intro pins s σ H x C v us Q I rx t h;obtain⟨l,xs,y,rfl,rfl,j,hy,q⟩:=h
 cases rx
 have f:=t.zero;subst f;obtain⟨z,d,n,r,m,e⟩:=I.IP j;obtain⟨u,B,k⟩:=r.get hy;have g:d.toArray[d.toArray.size-1]?=some u:=by
  show d.toArray[d.length-1]?=some u;rw[<- fZ,<- m];exact B
 refine call_meets F.slot_list_pop ⟨_,e,rfl⟩ F.entry_list_pop (F.args_list_pop_1 _) (MeetsSeq.list_pop_last l d.toArray n u g<|by rw[aX];lia) ⟨e,?_⟩;refine⟨y,_,I.QC (its':=d.dropLast) j e ?_ r.dropLast ?_,k,q⟩
 ·skip
  rw[aX,List.eraseIdxIfInBounds_toArray,Ao]
 ·rw[eU]
  lia
abbrev Rh:R2:=λx y H Q=>∃l b xs zs,x=.ref l/\y=.ref b/\H l=some (.lst xs)/\H b=some (.lst zs)/\xs.length+zs.length<=sizeLine/\∀p,H p=none->Q (.ref p) (upd H p<|.lst<|xs++zs)
def OO:l8 X (binaryOp .Add) Rh:=by
 kcj_m;obtain⟨l,b,xs,zs,rfl,rfl,j,k,C,q⟩:=h
 cases rx
 cases ry
 obtain⟨z,f,n,r,F,e⟩:=I.IP j;obtain⟨B,d,t,r2,m,e2⟩:=I.IP k;refine PySem.P.add_list e e2 ?_ (by rw[aX,aX];lia);have g:f.toArray++d.toArray=(f++d).toArray:=by simp
 rw[g];exact⟨.ref _,_,I.Fq (t':=s.toks) (r.append r2)<|by rw[aV];lia,rfl,q _ I.fresh⟩
abbrev Rb:R2:=λx y H Q=>∃l k xs,x=.ref l/\y=.int k/\H l=some (.lst xs)/\-(2 ^ 63)<=k/\k<2 ^ 63/\xs.length * k.toNat<=sizeLine /\
 ∀p,H p=none->Q (.ref p) (upd H p<|.lst (List.replicate k.toNat xs).flatten)
def len_rep{α:Type}(xs:List α)(k:Nat):(List.replicate k xs).flatten.length=k * xs.length:=by
 induction k with
 | zero=>simp
 | succ k d=>rw[cQ,bS,aV,d,succ_mul,Nat.add_comm]
def OI:l8 X (binaryOp .Mult) Rb:=by
 kcj_m;obtain⟨l,k,xs,rfl,rfl,L,h1,h2,K,q⟩:=h
 cases rx
 obtain⟨t,rfl⟩:=ry;obtain⟨z,d,n,r,M,e⟩:=I.IP L;have C:d.toArray.size * k.toNat<=sizeLine:=by rw[aX,<- M];exact K
 have B:¬d.toArray.size * k.toNat>(2 ^ 63-1) / 8:=by
  have:(sizeLine:Nat)<=(2 ^ 63-1) / 8:=by decide
  omega
 have j:¬(!Builtin.List.listFitsIndex k)=true:=by
  rw[fitsIndex_both h1 h2];exact bg
 have f:¬Builtin.List.listTooLong (d.toArray.size * k.toNat)=true:=by
  rw[GY C];exact bg
 have g:List.foldl (λG J=>G++J) #[] (List.replicate (if d.toArray.isEmpty=true then 0 else k.toNat) d.toArray)=(List.replicate k.toNat d).flatten.toArray:=by
  have f0:∀m:Nat,List.foldl (λG J=>G++J) #[] (List.replicate m d.toArray)=(List.replicate m d).flatten.toArray:=λm=>by
   have:=foldl_rep d m [];rw[gw]at this;exact this
  rw[f0]
  cases d with
  | nil=>simp
  | cons a N=>rw[aU<|by simp]
 refine wpAny_binaryOp_repeat_ref (T := "list") (U := "int") ⋯ ⟨_,e,rfl⟩ (λs'=>typeIs_int s' k t) noFill_list_mul F.fills_int_mul F.slot_int_rmul repeat_list F.slot_int_index.lookup
  (call_meets F.slot_int_rmul (typeIs_int s k t) F.entry_int_rmul (F.args_int_rmul_2 _ _) (int___rmul___int_list k t l d.toArray n)
   ⟨e,rfl,⟨_,e,rfl⟩,call_meets F.slot_list_mul ⟨_,e,rfl⟩ F.entry_list_mul (F.args_list_mul_2 _ _) (AutoListH.list___mul___list_int_3 l d.toArray n k t j B f) ⟨e,?_⟩⟩)
 rw[g];exact⟨.ref _,_,I.Fq (t':=s.toks) (r.rep k.toNat)<|by rw[len_rep,Nat.mul_comm];exact K,rfl,q _ I.fresh⟩
end
end L2
namespace Att
open PySem PySem.W PySem.Calls PyProof.Rows
def tX{P:Params}:∀(ns:ag) (vs:ba),WellAll P h vs (ns.map WData.int)->IntsAre vs ns:=by
 intro ns
 induction ns with
 | nil=>
  intro vs w;rw[dM]at w
  cases w
  exact .nil
 | cons n ns d=>
  intro vs w;rw[bD]at w
  cases w with
  | cons a b=>
   cases a
   exact .cons _ _<|d _ b
def DB{l:OpenLaw}{n:Nat}(hn:l.most=some n){P:Params}{h:au}
  (J:l.row.toRowW.claim.pre args=true) (L:WellAll P h vals args) :
  ∃a vs ns,vals=[Value.ref a]/\args=[WData.list<|ns.map WData.int]/\h.get? a=some { cls:=.type "list",data:=.seq vs.toArray }/\IntsAre vs ns/\ns.length<=n:=by
 have m:WShape.hasAll [] args [.list .int]=true:=(pre_splitW J).1;have hc:l.pre.holds [] { args:=args }=true:=(pre_splitW J).2;obtain⟨d,r,rfl,h1,h2⟩:=hasAllW_cons m;obtain rfl:=hasAllW_nil h2;obtain⟨xs,rfl,F⟩:=hasW_list h1;obtain⟨ns,rfl⟩:=items_int F;have g:ns.length<=n:=by
  unfold OpenLaw.pre at hc;have k:(WTm.not<|.lt (.lit<|.int (n:Int))<|.len<|.arg 0).holds [] { args:=[.list<|ns.map .int]}=true:=by
   have k:=(holds_andW hc).1;rw[hn]at k;exact k
  have j:=condW_of k<|w_not<|w_lt w_lit<|w_len_list<|w_arg rfl;rw[aN]at j;refine Nat.le_of_not_lt λq=>?_;have C:(n:Int)<((ns.length:Nat):Int):=by omega
  first
   | (rw[bh C]at j;exact absurd j ⋯)
   | (simp at j;omega)
 cases L with
 | cons B t=>
  cases t
  cases B with
  | list z f=>exact⟨_,_,ns,rfl,rfl,z,tX ns _ f,g⟩
def DG(l:OpenLaw)(args:List WData):l.row.toRowW.claim.post args (.bool true) args=true:=
 postW_of (r:=l.row.toRowW) (X:=(true == true))
  (show WShape.has [] (.bool true) .bool=true by first|rfl|decide|simp[WShape.has,WShape.arms,WShape.armsAll])
  (show(WTm.eq .res<|.lit<|.bool true).value [] { args:=args,res:=some<|.bool true,after:=args }=some (.bool<|true == true)from w_eq_bool (w_res rfl) w_lit) rfl
def yy{l:OpenLaw}{n:Nat}{q:ah}{XP:(Str->bi)->au->Prop}{YP:af->au->Prop}{d:DefRec}
  (hn:l.most=some n) (Z:d.params.defaults=[])
  (call:∀(w:af) (s₀ s₁:aE) (mg mb:Str->bi) (fa:aq) (o:Obj) (pm cd doc:aa) (a:aq) (vs:ba) (ns:ag),
   Ground q loose [] XP w s₀ mg mb s₁.heap->YP w s₁.heap ->
   s₁.heap.get? fa=some o->o.data=.func (docDef d.name d.params d.body d.scope pm cd doc)->s₁.heap.CodeRec cd d.name->mg d.name=some (.ref fa) ->
   s₁.heap.get? a=some { cls:=.type "list",data:=.seq vs.toArray }->IntsAre vs ns->ns.length<=n->s₁.gens=#[] ->
   codeAny (model l.prog w) callerA (.call (.ref fa) ⟨[.ref a],[]⟩) (λr s'=>r=.ok (.ret<|.bool true)/\OldK s₁.heap s'.heap/\s'.os=s₁.os/\AllBare s'.gens) s₁) :
  WalkO q loose XP YP l.row.toRowW d [] (λf vs=>PySem.call f vs):=by
 intro w s₀ s₁ mg mb G Y fa o pm cd doc M kV L hd z J B hg K C W j F P t N;obtain rfl:M=.none:=Dflts.none J Z;obtain rfl:kV=.none:=Dflts.noKw J;obtain⟨a,vs,ns,rfl,rfl,k,g,m⟩:=DB hn j t;refine enter_call<|gD (call w s₀ s₁ mg mb fa o pm cd doc a vs ns G Y L (fd_plain hd) z B k g m hg) λr s' V=>?_;obtain⟨rfl,h2,U,O⟩:=V;exact⟨.inl ⟨.bool true,.bool true,[],rfl,λ_=>rfl,.bool true,DG l _,λ_=>⟨List.Pairwise.nil,λ_ hm=>(nomatch hm)⟩⟩,h2,U,O⟩
end Att
namespace L2
open PySem PySem.Spec PyProof.Rows
theorem sj:∀{vs:ba}{ns:ag},IntsAre vs ns->Vals (ns.map V.int) vs
 | _,_,.nil=>.nil
 | _,_,.cons n t h=>.cons ⟨t,rfl⟩<|sj h
abbrev KU (H:Hp):Prop:=∀b,H b=none\/∃o xs,H b=some (.frz o<|.lst xs)
def GH{P:ah}{w:af}{K:aA}{mg mb:Str->bi}{CX:Jm}{k:Nat}{fa a:aq}{x:Str}{sp:Sp}{s₁:aE}{vs:ba}{ns:ag}
  (KX:K.In s₁.heap) (hns:s₁.heap.Ns mainGlobals mg) (hb:s₁.heap.Ns builtinsNs mb) (hbb:∀x:Str,x ≠ "__name__" -> mb x=bootBuiltins x) (hlim:s₁.heap.NoLimit) (hg:s₁.gens=#[])
  (ha:s₁.heap.get? a=some { cls:=.type "list",data:=.seq vs.toArray }) (hi:IntsAre vs ns) (hl:ns.length<=sizeLine) (hr:Room k callerA)
  (F:∀base:au,K.In base->base.Ns mainGlobals mg->FnOk P w K mg base CX k fa fd [x] sp) (hbind:∀(s:aE) (u:aa),BindsTo s fd ⟨[u],[]⟩ [(x,u)])
  (hsp:∀H:Hp,KU H->j5 K H a (ns.map V.int)->sp [.ref a] H (λv _=>v=.bl true) λ_ _ _=>False)
  (hCX:∀H e s',CX [] H s₁ (λ_ _ _=>False) e s'->False) :
  codeAny (model P w) callerA (.call (.ref fa) ⟨[.ref a],[]⟩) (λr s'=>r=.ok (.ret<|.bool true)/\OldK s₁.heap s'.heap/\s'.os=s₁.os/\AllBare s'.gens) s₁:=by
 have U:=sj hi;have C:=hi.length;have j:∀H:Hp,KU H->j5 K H a (ns.map V.int)->qT P w H s₁.heap->(∀b,H b≠none->b=a)->(H a≠none->K.lookup a=none) ->
   codeAny (model P w) callerA (.call (.ref fa) ⟨[.ref a],[]⟩) (λr s'=>r=.ok (.ret<|.bool true)/\OldK s₁.heap s'.heap/\s'.os=s₁.os/\AllBare s'.gens) s₁:=by
  intro H N hS hok O hK;have f:∀{b:aq} {o:Obj},s₁.heap.get? b=some o->H b=none->(wH s₁.heap H).get? b=some o:=λe n=>Hx e n;have M:∀{b:aq} {o:Obj} {es:Array DictEntry} {ep:Nat},s₁.heap.get? b=some o->o.data=.dict es ep->H b=none:=λ{b o es ep} e d=>by
   cases q:H b with
   | none=>rfl
   | some u=>
    have J:b=a:=O b (by rw[q];simp);subst J;rw[ha]at e;cases e;have d':Data.seq vs.toArray _=Data.dict es ep:=d
    cases d'
  have g:∀{b:aq} {m:Str->bi},s₁.heap.Ns b m->(wH s₁.heap H).Ns b m:=λ{b m} ⟨o,es,ep,e,d,r⟩=>⟨o,es,ep,f e<|M e d,d,r⟩;have G:K.In (wH s₁.heap H):=λb o e=>f (KX b o e) (by
   cases q:H b with
   | none=>rfl
   | some u=>
    have J:b=a:=O b (by rw[q];simp);subst J;rw[hK<|by rw[q];simp]at e;cases e)
  have Y:Mod K mg (wH s₁.heap H):=⟨G,g hns,⟨mb,g hb,hbb⟩,let⟨mc,h1,h2⟩:=hlim;⟨mc,g h1,h2⟩⟩;have e0:Env0 P w K mg (wH s₁.heap H) callerA [] s₁ H:=⟨rfl,Y,λb o e=>Lc e,Nat.le_of_eq<|Dq _ _,trivial,λb hb=>absurd (show b∈([]:bd)from hb)<|by simp,hok,.of_eq hg⟩;refine gD ((F _ G<|g hns).run callerA [] s₁ H ⟨[.ref a],[]⟩ [.ref a] [.ref a] _ _ hr e0 (hbind s₁<|.ref a) (.cons rfl .nil)<|hsp H N hS) λr s' h=>?_
  cases r with
  | error e=>exact(hCX H e s' h).elim
  | ok fl=>
   cases fl with
   | next=>exact False.elim h
   | brk=>exact False.elim h
   | cont=>exact False.elim h
   | ret u=>
    obtain⟨v,H',os,bare,un,B,W,q⟩:=h;have q':v=.bl true:=q;subst q';obtain rfl:u=Value.bool true:=W;refine⟨rfl,OldK.of_keep λb o e=>?_,os,bare⟩
    cases q:H b with
    | none=>exact un.keep b o e q (by intro z;exact absurd (show b∈([]:bd)from z)<|by simp) (by simp)
    | some u=>
     rcases N b with z|⟨ob,xs,z⟩
     ·rw[q]at z;cases z
     ·have Z:=un.frzs b ob _ z;obtain⟨e1,_⟩:=hok b _ z;obtain⟨e2,_⟩:=B b _ Z;rw[e]at e1;cases e1;exact e2
 cases L:K.lookup a with
 | some o=>
  have e:=KX a o L;rw[ha]at e
  cases e
  refine j (λ_=>none) (λ_=>.inl rfl) (.inr ⟨_,vs.toArray,_,L,rfl,rfl,rfl,by rw[aX,C];exact hl,by simpa using U⟩) (λb u z=>by have t:(none:Option HO)=some u:=z;cases t) (λb z=>absurd rfl z) λz=>absurd rfl z
 | none=>
  refine j (λb=>if b=a then some (.frz { cls:=.type "list",data:=.seq vs.toArray } (.lst<|ns.map V.int))else none) (λb=>?_) (.inl<|.inr ⟨{ cls:=.type "list",data:=.seq vs.toArray },aS rfl⟩) (λb u z=>?_) (λb z=>?_) λ_=>L
  ·by_cases hb:b=a
   ·exact .inr ⟨_,_,aS hb⟩
   ·exact .inl<|aU hb
  ·by_cases hb:b=a
   ·have t:=(aS hb).symm.trans z
    cases t
    subst hb;exact⟨ha,by rw[aN];exact hl,vs,_,U,ha⟩
   ·have t:=(aU hb).symm.trans z
    cases t
  ·by_cases hb:b=a
   ·exact hb
   ·exact absurd (aU hb) z
theorem Li{l:PySem.W.OpenLaw}{n k:Nat}{q:ah}{XP:(Str->bi)->au->Prop}{YP:af->au->Prop}{d:DefRec}{K:Params->aA}{CX:af->Jm}{sp:af->Sp}{x:Str}
  (hn:l.most=some n) (hn2:n<=sizeLine) (hdf:d.params.defaults=[]) (hr:Room k callerA)
  (hY:∀(w:af) (h:au),YP w h->(K w.params).In h)
  (F:∀(w:af) (mg:Str->bi) (fa:aq) (h:au),(K w.params).In h->h.Ns mainGlobals mg->mg d.name=some (.ref fa) ->
   ∃fd:FuncData,(∀(s:aE) (u:aa),BindsTo s fd ⟨[u],[]⟩ [(x,u)]) /\
    ∀base:au,(K w.params).In base->base.Ns mainGlobals mg->FnOk l.prog w (K w.params) mg base (CX w) k fa fd [x] (sp w))
  (hsp:∀(w:af) (H:Hp) (a:aq) (ns:ag),ns.length<=n->KU H->j5 (K w.params) H a (ns.map V.int)->sp w [.ref a] H (λv _=>v=.bl true) λ_ _ _=>False)
  (hCX:∀(w:af) (H:Hp) (s:aE) (e:aa) (s':aE),CX w [] H s (λ_ _ _=>False) e s'->False) :
  PySem.W.WalkO q loose XP YP l.row.toRowW d [] (λf vs=>PySem.call f vs):=by
 refine Att.yy hn hdf λw J t mg Z fa o pm cd P a vs ns G Y U hd M B z m j hg=>?_;have C:=hY w _ Y;obtain⟨fd,hb,N⟩:=F w mg fa _ C G.T.g B;exact GH C G.T.g G.T.b G.T.builtins G.T.nolimit hg z m (bC j hn2) hr N hb (λH L O=>hsp w H a ns j L O) λH e s'=>hCX w H t e s'
abbrev qb (s:aG):Arguments:=match s with
 | .FunctionDef _ a _ _ _ _ _ _ _ _=>a
 | _=>{ posonlyargs:=[],args:=[],vararg:=none,kwonlyargs:=[],kw_defaults:=[],kwarg:=none,defaults:=[]}
abbrev ni (s:aG):List aG:=match s with
 | .FunctionDef _ _ b _ _ _ _ _ _ _=>b
 | _=>[]
abbrev iT (s:aG):Scope:=match s with
 | .FunctionDef _ _ _ _ _ _ d _ _ _=>d
 | _=>{ kind:=.function,names:=[],isGenerator:=false,isCoroutine:=false }
meta abbrev qf:Jm:=λ_ _ _ _ _ _=>False
meta abbrev E0:XK:=λ_ _ _=>False
def QF:Passes qf X E0:=λ_ _ _ _ _ _ _ h=>h.elim
structure Fun (K:aA)(x qual:Str)(st:aG)(f:aq)(fd:FuncData):Prop where
 ex:∃(oc:aa) (od:Option aq) (kV doc pm:aa) (an:Option aq) (cdv ct:aa) (osl:Array<|bi),
  fd=PySem.W.fnOf x qual (qb st) (ni st) (iT st) .none kV doc pm an cdv ct/\K.lookup f=some ⟨oc,od,.func fd,osl⟩/\PySem.W.codeIn K cdv qual=true
 kp:PySem.W.keepIn K (.ref f)=true
section
variable {P:ah}{w:af}{K:aA}{mg:Str->bi}{base:au}
def Fun.ok{x:Str}{st:aG}{f:aq}{N ps:ar}{k:Nat}{sp:Sp}(F:Fun K x qual st f fd)(S:FnScope N ps<|iT st)(len:∀vs H Q E,sp vs H Q E->vs.length=ps.length)
  (J:∀(cdv:aa) (A:aC) (outer:List Env) (s:aE) (H:Hp) (vs:List V) (Q:VK) (E:XK),Room k (A.deeper<|envOfC qual (iT st) s.heap.objs.size f cdv)->sp vs H Q E ->
   ∃t,xB (AF qf P w K mg base N qual (iT st) f cdv A outer s H E).Pu (ni st) t/\t { nx:=λ_ H'=>Q .non H',rt:=Q } (start N vs) H):FnOk P w K mg base qf (k+1) f fd ps sp:=by
 obtain⟨B,z,kV,m,G,C,cdv,ct,j,rfl,lk,d⟩:=F.ex;refine QK lk d S len λA outer s H vs Q E hr g=>?_;obtain⟨t,h,q⟩:=J cdv A outer s H vs Q E hr g;exact⟨t,h.Pu,q⟩
def Fun.binds{x:Str}{st:aG}{f:aq}{ps:ar}(F:Fun K x qual st f fd)
  (h:∀(kV doc pm:aa) (an:Option aq) (cdv ct:aa) (us:ba),us.length=ps.length->bindArgs (PySem.W.fnOf x qual (qb st) (ni st) (iT st) .none kV doc pm an cdv ct) ⟨us,[]⟩=pure (ps.zip us)):Binds K fd ps []:=by
 obtain⟨k,j,kV,doc,pm,an,cdv,ct,d,rfl,lk,g⟩:=F.ex;exact .all<|h kV doc pm an cdv ct
def MR{x:Str}{st:aG}{f:aq}{kV j ct:aa}(l:K.lookup f=some ⟨oc,od,.func<|PySem.W.fnOf x qual (qb st) (ni st) (iT st) .none kV doc j an cdv ct,osl⟩)
  (c:PySem.W.codeIn K cdv qual=true) (k:PySem.W.keepIn K (.ref f)=true):Fun K x qual st f (PySem.W.fnOf x qual (qb st) (ni st) (iT st) .none kV doc j an cdv ct):=⟨⟨oc,od,kV,doc,j,an,cdv,ct,osl,rfl,l,c⟩,k⟩
end
section
variable {X:Cx}
def pv(i:Nat){x:Str}(J:X.N[i]?=some x<|>ε)(hv:OU X.env.scope x:=by first|exact Or.inl rfl|exact Or.inr (Or.inl rfl)|exact Or.inr<|Or.inr rfl)(hd:(x == ("__debug__" : Str))=false:=by decide)
  (j:(x == ("__classdict__" : Str))=false:=by decide):PE X (.Name x pos) (Pp i):=EW J hv hd j
end
set_option maxHeartbeats 4000000
abbrev Gz (σ:St):bo->Option V
 | some j=>(σ[j]?).getD none
 | none=>none
abbrev o_ (env:Env):List (Str×NameKind)->List (Str×aq)->List (Str×aq)
 | [],cs=>cs
 | (n,k)::r,cs=>o_ env r (if k == .free then(n,(env.cells.lookup n).getD 0)::cs else cs)
def qA{scope:Scope}{env:Env}(h:∀y∈scope.names,y.2=.free->∃c,env.cells.lookup y.1=some c):closureFor scope env=pure (o_ env scope.names []):=by
 have f:∀(l:List<|Str×NameKind) (d:List<|Str×aq),(∀y∈l,y.2=.free->∃c,env.cells.lookup y.1=some c) ->
   (forIn l d (λ(x:Str×NameKind) (r:List<|Str×aq)=>(match x with
    | (name,kind)=>if (kind == NameKind.free)=true then(do let c <- cellOf env name;pure (ForInStep.yield ((name,c)::r)))else pure (ForInStep.yield r):Sem<|ForInStep<|List<|Str×aq)))=(pure (o_ env l d):Sem<|List<|Str×aq):=by
  intro l
  induction l with
  | nil=>intro d _;rfl
  | cons y r t=>
   intro d j;obtain⟨n,k⟩:=y;rw[List.forIn_cons];by_cases m:k=.free
   ·subst m;obtain⟨c,hc⟩:=j (n,.free) aM rfl;have e1:cellOf env n=pure c:=by
     unfold cellOf;rw[hc]
    dsimp[cD,eE,e1,pure_bind];rw[t _ λz g=>j z<|aK _ g];dsimp[o_,cD,eE,hc,d8]
   ·have hb:(k == NameKind.free)=false:=by simpa using m
    dsimp[hb,dw,c_,pure_bind];rw[t _ λz g=>j z<|aK _ g];dsimp[o_,hb,dw,c_]
 have:=f scope.names [] h;exact(cA (λz=>z >>= λd=>(pure d:Sem<|List<|Str×aq)) this).trans (pure_bind _ _)
theorem uy:∀{l:List<|Str×NameKind}{x:Str}{k:NameKind},l.lookup x=some k->(x,k)∈l
 | [],_,_,h=>nomatch h
 | (n,k')::r,x,k,h=>by
  rw[di]at h
  cases hx:x == n with
  | true=>
   rw[hx]at h;have e:x=n:=by simpa using hx
   subst e
   cases h
   exact aM
  | false=>rw[hx]at h;exact aK _<|uy h
theorem v5{env:Env}{x:Str}:∀{l:List<|Str×NameKind}{cs:List<|Str×aq},(∀y∈l,y.2=.free->∃c,env.cells.lookup y.1=some c)->(o_ env l cs).lookup x=some c->env.cells.lookup x=some c\/cs.lookup x=some c
 | [],cs,_,h=>.inr h
 | (n,k)::r,cs,hl,h=>by
  have h':=v5 (l:=r) (λz f=>hl z<|aK _ f) h
  rcases h' with h'|h'
  ·exact .inl h'
  ·by_cases d:k=.free
   ·subst d;dsimp[cD,eE]at h';obtain⟨g,hc⟩:=hl (n,.free) aM rfl;rw[hc,d8,di]at h'
    cases hx:x == n with
    | true=>
     rw[hx]at h';have e:x=n:=by simpa using hx
     subst e;left;rw[hc];exact h'
    | false=>rw[hx]at h';exact .inr h'
   ·have hb:(k == NameKind.free)=false:=by simpa using d
    dsimp[hb,dw,c_]at h';exact .inr h'
theorem we{env:Env}{x:Str}:∀{l:List<|Str×NameKind}{cs:List<|Str×aq},(cs.lookup x).isSome=true->((o_ env l cs).lookup x).isSome=true
 | [],cs,h=>h
 | (n,k)::r,cs,h=>by
  skip
  refine we (l:=r) ?_;by_cases d:(k == NameKind.free)=true
  ·rw[aS d,di]
   cases hx:x == n with
   | true=>rfl
   | false=>exact h
  ·rw[aU d];exact h
theorem uP{env:Env}{x:Str}:∀{l:List<|Str×NameKind}{cs:List<|Str×aq},(x,NameKind.free)∈l->((o_ env l cs).lookup x).isSome=true
 | [],_,h=>nomatch h
 | (n,k)::r,cs,h=>by
  rcases a_.mp h with e|h
  ·cases e
   skip
   refine we (l:=r) ?_;rw[aS<|by rfl,di];simp
  ·exact uP (l:=r) h
theorem qL:∀(names:List<|Str×NameKind) (n:Nat) (acc:List<|Str×aq),cellsFrom n names acc=cellsFrom n names []++acc
 | [],_,_=>rfl
 | (x,k)::r,n,acc=>by
  unfold cellsFrom;split
  ·rw[qL r (n+1) ((x,n)::acc),qL r (n+1) [(x,n)],br];rfl
  ·exact qL r n acc
theorem z8:∀(names:List<|Str×NameKind) (n:Nat) {x:Str}{c:aq},(x,c)∈cellsFrom n names []->(x,NameKind.cell)∈names
 | [],_,_,_,h=>nomatch h
 | (y,k)::r,n,x,c,h=>by
  unfold cellsFrom at h;split at h
  ·rename_i d;rw[qL]at h
   rcases bA.mp h with z|z
   ·exact aK _ (z8 r _ z)
   ·rw[bf]at z
    cases z
    have:k=.cell:=by simpa using d
    rw[this];exact aM
  ·exact aK _<|z8 r _ h
theorem rW{α:Type}{x:Str}:∀{l m:List<|Str×α},(l++m).lookup x=match l.lookup x with|some c=>some c|none=>m.lookup x
 | [],_=>rfl
 | (y,c)::l,m=>by
  rw[gc,di,di]
  cases x == y with
  | true=>rfl
  | false=>exact rW
def Jt{n:Nat}{acc:List<|Str×aq}{x:Str}(h:(cellsFrom n names acc).lookup x=some c):(cellsFrom n names []).lookup x=some c\/((cellsFrom n names []).lookup x=none/\acc.lookup x=some c):=by
 rw[qL,rW]at h
 cases e:(cellsFrom n names []).lookup x with
 | some d=>rw[e]at h;exact .inl h
 | none=>rw[e]at h;exact .inr ⟨rfl,h⟩
def Nh{n:Nat}{acc:List<|Str×aq}{x:Str}(h:(x,NameKind.cell)∉names):(cellsFrom n names acc).lookup x=acc.lookup x:=by
 rw[qL,rW]
 cases e:(cellsFrom n names []).lookup x with
 | some d=>exact absurd (z8 names n<|cI e) h
 | none=>rfl
def w6{A:aC}{E:aa->aE->Prop}{s:aE}{scope:Scope}{j:aq}{J:List<|Str×aq}{env:Env}{Q:Env->aE->Prop}
  (L:∀h':au,h'.Ns s.heap.objs.size (λ_=>none)->(∀b o,s.heap.get? b=some o->h'.get? b=some o)->CellsOk h' (s.heap.objs.size+1) (cellsFrom (s.heap.objs.size+1) scope.names []) ->
   Q (newEnv scope s.heap.objs.size j (cellsFrom (s.heap.objs.size+1) scope.names J) qual none .none (some env) builtinsNs) { s with heap:=h',toks:=s.toks+([]:List<|Str×aa).length }) :
  wpAny M A (newFunctionEnv scope j J [] qual none .none<|some env) Q E s:=by
 dsimp[newFunctionEnv,isSome_some,eE];refine aJ<|wpAny_alloc ?_;refine aJ (wpAny_layCells _ (λname kind cells=>by cases d:kind == NameKind.cell<;>simp[d]) _ _ _ _ ?_);have ok:=cellsFrom_ok scope.names (s.heap.push { cls:=.type "dict",data:=.dict #[]}) (s.heap.objs.size+1) [] ⟨λ_ _ hm=>(nomatch hm),List.Pairwise.nil⟩ (by rw[d9];exact aO _);rw[d9]at ok;rw[show({ s with heap:=s.heap.push { cls:=.type "dict",data:=.dict #[]}}:aE).heap.objs.size=s.heap.objs.size+1 from d9 ..];rw[List.forIn_nil];refine aJ<|aP<|aP ?_;exact L _ ((Heap.Ns.new s.heap<|.type "dict").keeps<|pushCells_keeps _ _) (λb o e=>pushCells_keeps _ _ b o<|aQ _ e) ok
abbrev iZ (X:Cx)(scope:Scope)(N:ar)(C:aq)(s₀:aE)(H₀:Hp)(ex:bd):Cx where
 prog:=X.prog
 w:=X.w
 K:=X.K
 mg:=X.mg
 base:=X.base
 A:=X.A
 N:=N
 s₀:=s₀
 H₀:=H₀
 env:=compEnvC scope (cellsFrom (C+1) scope.names<|o_ X.env scope.names []) C X.env
 outer:=X.stack
 stack:=X.stack
 ex:=ex
 fn:=λx=>scope.names.lookup x == some .cell
 calm:=X.calm
 pn:=[]
 xe:=λ_ _=>False
structure CpScope (X:Cx)(scope:Scope)(N:ar)(cap:List (bo)):Prop where
 kind:scope.kind=.function
 nocf:∀x,(x,NameKind.free)∈scope.names->(x,NameKind.cell)∉scope.names
 nm:∀y∈scope.names,y.2=.local->scope.names.lookup y.1=some .local
 fr:∀y∈scope.names,y.2=.free->X.env.kindOf y.1=some .cell\/X.env.kindOf y.1=some .free
 rl:∀y,((relabel scope X.env).names.lookup y=some .cell\/(relabel scope X.env).names.lookup y=some .free)->(y,NameKind.free)∈scope.names\/scope.names.lookup y=some .cell
 len:cap.length=N.length
 nolf:∀x,(x,NameKind.free)∈scope.names->scope.names.lookup x≠some .local
 cp:∀(i j:Nat) (x:Str),N[i]?=some x->cap[i]?=some (some j)->X.N[j]?=some x/\(x,NameKind.free)∈scope.names
def zT{scope:Scope}{N:ar}{cap:List<|bo}{H:Hp}{s:aE}{fp:bd}{h₁:au}{m:Str->bi}{tk:Nat}(S:CpScope X scope N cap)(I:Inv X pins σ H s)
  (hf:∀b∈fp,m9 X pins H b) (ho:∀b∈fp,∃o,s.heap.get? b=some o) (hn:h₁.Ns s.heap.objs.size m) (hC:CellsOk h₁ (s.heap.objs.size+1)<|cellsFrom (s.heap.objs.size+1) scope.names []) (hk:∀b o,s.heap.get? b=some o->h₁.get? b=some o) :
  Inv (iZ X scope N s.heap.objs.size s H fp) [] (cap.map<|Gz σ) H { s with heap:=h₁,toks:=tk }:=by
 k_ne;have lk:∀x c,(o_ X.env scope.names []).lookup x=some c->X.env.cells.lookup x=some c:=λx c e=>by
  rcases v5 hfree e with z|z
  ·exact z
  ·cases z
 have f:∀x c,(cellsFrom (s.heap.objs.size+1) scope.names<|o_ X.env scope.names []).lookup x=some c->((x,c)∈cellsFrom (s.heap.objs.size+1) scope.names []/\h₁.IsCell c none/\s.heap.objs.size+1<=c)\/X.env.cells.lookup x=some c:=λx c e=>by
  rcases Jt e with z|z
  ·exact .inl ⟨cI z,hC.empty x c<|cI z⟩
  ·exact .inr<|lk x c z.2
 have old:∀x c,X.env.cells.lookup x=some c->c<s.heap.objs.size:=λx c e=>by
  obtain⟨v,z⟩:=I.cell x c e;exact z.lt
 have lt:∀b o,s.heap.get? b=some o->b≠s.heap.objs.size:=λb o e=>bB<|aZ e;refine⟨⟨I.ok.mod,?_,I.ok.glob,I.ok.blt,aO _,?_,?_,?_,I.ok.hd,I.ok.frames,.inl rfl,?_,I.bs,bC I.ok.bsz I.sz,?_,?_,I.stack,I.CT⟩,rfl,I.bare,Un.kept hk,?_,?_,I.hok.fresh<|aO _,?_,?_,I.hok.kept hk,?_⟩
 ·exact S.kind
 ·intro x y c e1 e2
  rcases f x c e1 with a|a
  ·rcases f y c e2 with b|b
   ·exact name_of_addr hC.apart a.1 b.1
   ·exact absurd (old y c b)<|not_lt.mpr<|cW a.2.2
  ·rcases f y c e2 with b|b
   ·exact absurd (old x c a) (not_lt.mpr<|cW b.2.2)
   ·exact I.ok.inj x y c a b
 ·intro x e;refine cX.mp (eB _ _ _ ?_)
  rcases S.rl x e with hm|hm
  ·exact .inr (uP (env:=X.env) (cs:=[]) hm)
  ·exact .inl hm
 ·intro x c e F;have e:scope.names.lookup x=some .cell:=by
   have e:(scope.names.lookup x == some .cell)=true:=e;simpa using e
  obtain⟨d,hd⟩:=cX.mp<|eB scope.names (s.heap.objs.size+1) []<|.inl e;have F:(cellsFrom (s.heap.objs.size+1) scope.names<|o_ X.env scope.names []).lookup x=some c:=F;rw[qL,rW,hd]at F
  cases F
  exact cW (hC.empty x c<|cI hd).2
 ·intro b hb;obtain⟨o,e⟩:=ho b hb;refine⟨lt b o e,λx c e2=>?_⟩
  rcases f x c e2 with z|z
  ·exact ir (Nat.lt_trans (aZ e) z.2.2)
  ·exact(hf b hb).2.2.2.2.1 x c z
 ·intro b o e hb;obtain⟨_,_,_,h3,_⟩:=hf b hb
  rcases h3 with z|z
  ·exact I.ok.noex b o e z
  ·exact absurd (bN (aZ (I.ok.bs b o e).1) z)<|fu _
 ·intro b hb hz;obtain⟨_,h1,h2,_⟩:=hf b hb
  rcases a_.mp (I.AA b hz)with z|z
  ·exact h1 z
  ·exact h2 z
 ·refine⟨m,hn,λi x v e1 e2 e3=>?_⟩;rw[aY]at e2
  cases hc:cap[i]? with
  | none=>rw[hc]at e2;cases e2
  | some Z=>
   rw[hc]at e2
   cases Z with
   | none=>cases e2
   | some j=>
    have t:(σ[j]?).getD none=some v:=aW e2;obtain⟨hj,hm⟩:=S.cp i j x e1 hc;obtain⟨m0,V,U⟩:=I.loc;have P:σ[j]?=some (some v):=by
     cases h:σ[j]? with
     | none=>rw[h]at t;cases t
     | some z=>rw[h,d8]at t;rw[t]
    have K:=S.fr (x,.free) hm rfl;have hv:OU X.env.scope x:=.inr K;obtain⟨u,Y,lo⟩:=U j x v hj P hv;refine⟨u,Y,?_⟩
    rcases lo with⟨lo,_⟩|⟨_,c,F,W⟩
    ·rcases K with z|z<;>(rw[z]at lo;cases lo)
    ·have h2:=uP (env:=X.env) (cs:=[]) hm;obtain⟨O,B⟩:=cX.mp h2;have:O=c:=aW<|(lk x O B).symm.trans F;subst this;refine .inr ⟨?_,O,(Nh<|S.nocf x hm).trans B,?_⟩
     ·rcases e3 with z|z|z
      ·exfalso;have:(relabel scope X.env).names.lookup x=some .local:=z;have J:scope.names.lookup x=some .local:=by
        have G:∃k,(x,k)∈(relabel scope X.env).names/\k=.local:=by
         clear B h2;have:=uy this;exact⟨_,this,rfl⟩
        obtain⟨k,M,rfl⟩:=G;obtain⟨⟨n',k'⟩,L,g⟩:=bK.mp M;dsimp only at g;split at g
        ·cases g
        ·cases g
         exact S.nm (x,.local) L rfl
       exact False.elim<|S.nolf x hm J
      ·exact .inl z
      ·exact .inr z
     ·obtain⟨o,C,hd⟩:=W;exact⟨o,hk _ _ C,hd⟩
 ·intro x c e
  rcases f x c e with z|z
  ·exact⟨_,z.2.1⟩
  ·obtain⟨v,o,C,hd⟩:=I.cell x c z;exact⟨v,o,hk _ _ C,hd⟩
 ·intro x c e
  rcases f x c e with z|z
  ·exact I.hok.fresh (cW z.2.2)
  ·exact I.freeC x c z
 ·intro p hp
  cases hp
 ·rw[aN,S.len];rfl
abbrev zO (X:Cx)(ifs:List aF)(t:TT):Prop:=
 ∀(pins:bt) (s:aE) (σ:St) (H:Hp) (Q:Bool->Hp->Prop),Inv X pins σ H s->t σ H Q ->
  wpAny (model X.prog X.w) X.A (forIn ifs true λc r=>if r=true then do let ok <- isTrue c X.env (eval c X.env);pure (ForInStep.yield ok)else pure (ForInStep.yield r)) (TP X pins σ Q) X.xe s
abbrev Rt:TT:=λ_ H Q=>Q true H
def JX:zO X [] Rt:=λ_ _ _ H _ I h=>wpAny_tests_nil ⟨H,I,h⟩
def Lg{c:aF}{t:TT}(h:PT X c t):zO X [c] t:=λpins s σ H Q I q=>wpAny_tests_one<|h pins s σ H Q I q
abbrev MP (cap:List<|bo)(g:TG)(tc:TT)(te:TE)(σ:St)(Q:VK)(J:It)(H1:Hp):Prop:=∀D,H1 D=none ->
 ∃W:Nat->Nat->St->Hp->Prop,(∃m,W 0 m (cap.map<|Gz σ)<|upd H1 D<|.lst [])/\∀i m f H',W i m f H' ->
  (J.stop i H'/\Q (.ref D) H')\/(J.go i H'/\∀x H2,J.yld i H' x H2->g x f H2 λd k=>tc d k λb j=>
   if b=true then te d j λy H5=>∃ys,H5 D=some (.lst ys)/\ys.length<sizeLine/\∃m',m'<m/\W (i+1) m' d (upd H5 D<|.lst<|ys++[y])
   else ∃m',m'<m/\W (i+1) m' d j)
abbrev Qi (cap:List<|bo)(j:TI)(g:TG)(tc:TT)(te:TE):TE:=λσ H Q=>j σ H<|MP cap g tc te σ Q
def rF{α:Type}{t:Sem α}{Q Q':α->aE->Prop}{A:aC}{E:aa->aE->Prop}(h:wpAny M A t Q (λ_ _=>False) s)(j:∀a s,Q a s->Q' a s):wpAny M A t Q' E s:=
 dm h j λ_ _ f=>f.elim
structure TurnG (ok:Cx->Prop)(P:ah)(w:af)(K:aA)(tg:aF)(J:It)(fp:bd)(it:aq)(tn:Nat->au->Prop):Prop where
 obj:∀i h,tn i h->∀b∈fp,∃o,h.get? b=some o/\∀v,o.data≠.cell v
 keep:∀i h h',tn i h->(∀b∈fp,∀o,h.get? b=some o->h'.get? b=some o)->tn i h'
 item:∀(X:Cx),X.prog=P->X.w=w->X.K=K->ok X->∀(i:Nat) (pins:bt) (s:aE) (σ:St) (H:Hp) (E:aa->aE->Prop),Inv X pins σ H s->(∀b∈fp,m9 X pins H b)->tn i s.heap->J.go i H ->
  wpAny (model P w) X.A (pyNext<|.ref it) (λr s1=>∃u,r=some u /\
   wpAny (model P w) X.A (letOwnedTupleGo tg (.ref it) u) (λ_ s2=>∃x H',Inv X pins σ H' s2/\RelV x u/\J.yld i H x H'/\tn (i+1) s2.heap/\∀b∈fp,H' b=none) E s1) E s
 done:∀(X:Cx),X.prog=P->X.w=w->X.K=K->ok X->∀(i:Nat) (pins:bt) (s:aE) (σ:St) (H:Hp) (E:aa->aE->Prop),Inv X pins σ H s->(∀b∈fp,m9 X pins H b)->tn i s.heap->J.stop i H ->
  wpAny (model P w) X.A (pyNext<|.ref it) (λr s1=>r=none/\Inv X pins σ H s1) E s
 self:∀(A:aC) (i:Nat) (s:aE) (Q:aa->aE->Prop) (E:aa->aE->Prop),tn i s.heap->Q (.ref it) s->wpAny (model P w) A (pyIter<|.ref it) Q E s
abbrev Rp (ok:Cx->Prop)(X:Cx)(pins:bt)(σ:St)(tg:aF)(R:It->Hp->Prop)(j:aa)(L:aE):Prop:=
 ∃(it:aq) (fp:bd) (d:Nat->au->Prop) (J:It) (H':Hp),j=.ref it/\Inv X pins σ H' L/\TurnG ok X.prog X.w X.K tg J fp it d/\d 0 L.heap/\(∀b∈fp,m9 X pins H' b)/\R J H'
abbrev SH (ok:Cx->Prop)(X:Cx)(tg iter:aF)(j:TI):Prop:=
 ∀(pins:bt) (s:aE) (σ:St) (H:Hp) (R:It->Hp->Prop),Inv X pins σ H s->j σ H R ->
  wpAny (model X.prog X.w) X.A (eval iter X.env) (λv d=>wpAny (model X.prog X.w) X.A (pyIter v) (Rp ok X pins σ tg R) X.xe d) X.xe s
def PI.g{iter:aF}{L:TI}(h:PI X tg iter L):SH (λY=>Y.calm=true) X tg iter L:=λpins s σ H R I q=>
 jz (h pins s σ H R I q) λv m h1=>jz h1 λd k ⟨it,fp,f,J,H',e,j,T,a,b,c⟩=>⟨it,fp,f,J,H',e,j,⟨T.obj,T.keep,T.item,T.done,T.self⟩,a,b,c⟩
def B5{ok:Cx->Prop}{X:Cx}{use:Option<|aa->Sem Unit}{Q':aa->aE->Prop}{iter:aF}{N:ar}{wi:TI}{g:TG}{tc:TT}{te:TE}(S:CpScope X scope N cap)(hok:∀C s₀ H₀ ex,(∀a o u,X.H₀ a=some (.frz o u)->H₀ a=some (.frz o u))->ok (iZ X scope N C s₀ H₀ ex))(hi:SH ok X tg iter wi)
  (hg:∀C s₀ H₀ ex,PG (iZ X scope N C s₀ H₀ ex) tg g) (ht:∀C s₀ H₀ ex,zO (iZ X scope N C s₀ H₀ ex) ifs tc) (he:∀C s₀ H₀ ex,PE (iZ X scope N C s₀ H₀ ex) elt te)
  (hs:(∀x,foldedSetIterable iter X.env x=pure x)<|>ζ):∀(pins:bt) (s:aE) (σ:St) (H:Hp) (Q:VK),Inv X pins σ H s->Qi cap wi g tc te σ H Q ->
  (∀(s6:aE) (C D:aq) (H5:Hp) (m:Str->bi),s6.heap.Ns C m->m9 X pins H5 C->(∀h',Heap.SameBut C s6.heap h'->Inv X pins σ H5 { s6 with heap:=h' })->Q (.ref D) H5->∀v,compPost (model X.prog X.w) X.A X.xe use Q' (.ref D) C (.ok v) s6) ->
  wpAny (model X.prog X.w) X.A (comprehension (.ListComp elt [⟨tg,iter,ifs,0⟩] scope pos) scope X.env (firstIterPos [⟨tg,iter,ifs,0⟩] pos) (newList []) (firstAsync [⟨tg,iter,ifs,0⟩]) (firstIter [⟨tg,iter,ifs,0⟩] X.env) use) Q' X.xe s:=by
 intro pins s σ H Q I h Y;k_ne;refine fC (use:=use) rfl hs (qA hfree) S.kind S.nm<|jz (hi pins s σ H _ I h) λxv s1 h1=>jz h1 λitv f h2=>?_;obtain⟨it,fp,tn,J,H2,rfl,I2,T,P,f2,h2⟩:=h2;refine bU<|w6 λK j old k=>?_;obtain⟨W,⟨m0,w0⟩,O⟩:=h2 f.heap.objs.size I2.fresh;dsimp only at j old k ⊢;have I3:Inv X pins σ (upd H2 f.heap.objs.size<|.lst []) { f with heap:=f.heap.push {}}:=I2.Fq (t':=f.toks) (its:=[]) .nil<|bL _;have V:∀b∈fp,∃o,f.heap.get? b=some o:=λb hb=>by
  obtain⟨o,e,_⟩:=T.obj 0 _ P b hb;exact⟨o,e⟩
 have neD:∀b∈fp,b≠f.heap.objs.size:=λb hb=>by
  obtain⟨o,e⟩:=V b hb;exact bB<|aZ e
 have f3:∀b∈fp,m9 X pins (upd H2 f.heap.objs.size<|.lst []) b:=λb hb=>⟨by rw[iG<|neD b hb];exact(f2 b hb).1,(f2 b hb).2⟩;have hDC:f.heap.objs.size≠(f.heap.push {}).objs.size:=by rw[d9];exact bB (bE _)
 have I4:=zT (tk:=f.toks+([]:List<|Str×aa).length) (fp:=fp) S I3 f3 (λb hb=>by
  obtain⟨o,e⟩:=V b hb;exact⟨o,aQ _ e⟩) j k old
 have M:tn 0 K:=T.keep _ _ _ P λb hb o e=>old b o<|aQ _ e;have hc:=hok (f.heap.push {}).objs.size { f with heap:=f.heap.push {}} (upd H2 f.heap.objs.size<|.lst []) fp λa o u e=>by
  have z:=I2.base.frzs a o u e;rw[iG λq=>by rw[q,I2.fresh]at z;cases z];exact z
 have stat:∀{H':Hp},(∀b∈fp,H' b=none)->∀b∈fp,m9 (iZ X scope N (f.heap.push {}).objs.size { f with heap:=f.heap.push {}} (upd H2 f.heap.objs.size<|.lst []) fp) [] H' b:=λhn b hb=>by
  have ok:=I4.ok;kpf_c
 have G:∀s4:aE,s4={ f with heap:=K,toks:=f.toks+([]:List<|Str×aa).length } ->
   codeAny (model X.prog X.w) X.A (.compLoop (.ListComp elt [⟨tg,iter,ifs,0⟩] scope pos) 0 (.ref it) (.ref f.heap.objs.size)<|compEnvC scope (cellsFrom ((f.heap.push {}).objs.size+1) scope.names<|o_ X.env scope.names []) (f.heap.push {}).objs.size X.env)
    (compPost (model X.prog X.w) X.A X.xe use Q' (.ref f.heap.objs.size) (f.heap.push {}).objs.size) s4:=by
  rintro s4 rfl;refine gE rfl (λn s'=>∃i B H',Inv (iZ X scope N (f.heap.push {}).objs.size { f with heap:=f.heap.push {}} (upd H2 f.heap.objs.size<|.lst []) fp) [] B H' s'/\tn i s'.heap/\(∀b∈fp,H' b=none)/\W i n B H') (λn s5 hI=>?_) m0 ⟨0,_,_,I4,M,λb hb=>(f3 b hb).1,w0⟩;obtain⟨i,σ5,H5,I5,U,Z,w5⟩:=hI;show wpAny _ X.A ((compTurn (.ListComp elt [⟨tg,iter,ifs,0⟩] scope pos) 0 (.ref it) (.ref f.heap.objs.size)<|compEnvC scope (cellsFrom ((f.heap.push {}).objs.size+1) scope.names<|o_ X.env scope.names []) (f.heap.push {}).objs.size X.env).onRaise λx=>do noteFrame x _;theTreesLotGoes x) _ _ s5;refine gS ?_;rw[compTurn_list];refine aJ (bY<|aJ ?_)
  rcases O i n σ5 H5 w5 with⟨stop,q⟩|⟨go,step⟩
  ·refine jz (T.done (iZ X scope N (f.heap.push {}).objs.size { f with heap:=f.heap.push {}} (upd H2 f.heap.objs.size<|.lst []) fp) rfl rfl rfl hc i [] s5 σ5 H5 _ I5 (stat Z) U stop) λr s6 h9=>?_;obtain⟨hr,I6⟩:=h9;subst hr;obtain⟨m6,hn6,_⟩:=I6.loc;refine aP<|Y s6 _ _ H5 m6 hn6 (I3.vq (aO _) I6.free) (λh' sb=>?_) q _;have u6:=I6.base;have nC:∀b o,(f.heap.push {}).get? b=some o->b≠(f.heap.push {}).objs.size:=λb o e=>bB<|aZ e;kd_p
   ·exact sb.extBut b o (nC b o e) (u6.keep b o e n hb hx)
   ·obtain⟨sl,z⟩:=u6.slot b o e n hb hx;exact⟨sl,sb.extBut b _ (nC b o e) z⟩
   ·exact u6.free b o e n hx
   ·obtain⟨o',z⟩:=u6.there b o e hx;exact⟨o',sb.extBut b _ (nC b o e) z⟩
   ·intro b o e;have hb:∀c v,H5 c=some v->c≠(f.heap.push {}).objs.size:=λc v e z=>by
     rw[z]at e;have:=I6.free;rw[show H5 (f.heap.push {}).objs.size=none from this]at e
     cases e
    refine(I6.hok b o e).stay (λc v hc q=>sb.extBut c v ?_ q) (λ_ q=>q) λ_ _ q=>q
    rcases hc with z|z
    ·rw[z];exact hb b o e
    ·exact hb c _ z
   ·intro b hb;obtain⟨_,z1,_,z3,z4,z5⟩:=f3 b hb;exact⟨z3,z1,z4,z5⟩
  ·refine jz (T.item (iZ X scope N (f.heap.push {}).objs.size { f with heap:=f.heap.push {}} (upd H2 f.heap.objs.size<|.lst []) fp) rfl rfl rfl hc i [] s5 σ5 H5 _ I5 (stat Z) U go) λr s6 h9=>?_;obtain⟨u,hr,h6⟩:=h9;subst hr;kpc_g;f_are;kln_w;refine aJ<|rF (ht _ _ _ fp _ s8 σ8 H8 _ I8 q8) λok s9 ⟨H9,I9,q9⟩=>?_;have F:∀{t:aE} {H10:Hp},Inv (iZ X scope N (f.heap.push {}).objs.size { f with heap:=f.heap.push {}} (upd H2 f.heap.objs.size<|.lst []) fp) ([]++oQ fp s7.heap) σ8 H10 t->(∃m',m'<n/\W (i+1) m' σ8 H10) ->
     ∃m,m<n/\∃i B H',Inv (iZ X scope N (f.heap.push {}).objs.size { f with heap:=f.heap.push {}} (upd H2 f.heap.objs.size<|.lst []) fp) [] B H' t/\tn i t.heap/\(∀b∈fp,H' b=none)/\W i m B H':=λ{t H10} I10 h9=>by
    obtain⟨m',hm,w10⟩:=h9;kj_on;obtain⟨o,e,d⟩:=T.obj _ _ st7 b hb;o_rec
   cases ok with
   | false=>
    rw[aU bg]at q9;exact aP ⟨rfl,F I9 q9⟩
   | true=>
    rw[aS rfl]at q9;refine aJ<|aJ<|rF (he _ _ _ fp _ s9 σ8 H9 _ I9 q9) λy t ⟨L,H10,I10,r10,ys,hD,hz,w10⟩=>?_;refine aJ<|rF (sS _ t σ8 H10 (.ref f.heap.objs.size) [L] _ [y] (λ_ H'=>H'=upd H10 f.heap.objs.size (.lst<|ys++[L])) I10 rfl (.cons r10 .nil) ⟨_,ys,L,rfl,rfl,hD,hz,rfl⟩) λ_ s11 ⟨_,H11,I11,_,e11⟩=>?_;subst e11;exact aP<|aP ⟨rfl,F I11 w10⟩
 exact codeAny_compStart_list (G _ rfl)<|T.self _ 0 _ _ _ M<|G _ rfl
def OA{ok:Cx->Prop}{X:Cx}{iter:aF}{N:ar}{J:TI}{g:TG}{tc:TT}{te:TE}(S:CpScope X scope N cap)(hok:∀C s₀ H₀ ex,(∀a o u,X.H₀ a=some (.frz o u)->H₀ a=some (.frz o u))->ok (iZ X scope N C s₀ H₀ ex))(hi:SH ok X tg iter J)
  (hg:∀C s₀ H₀ ex,PG (iZ X scope N C s₀ H₀ ex) tg g) (L:∀C s₀ H₀ ex,zO (iZ X scope N C s₀ H₀ ex) ifs tc) (M:∀C s₀ H₀ ex,PE (iZ X scope N C s₀ H₀ ex) elt te)
  (hs:(∀x,foldedSetIterable iter X.env x=pure x)<|>ζ):PE X (.ListComp elt [⟨tg,iter,ifs,0⟩] scope pos) (Qi cap J g tc te):=by
 w_up;rw[eval_ListComp];exact B5 (use:=none) (Q':=EP X pins σ Q) S hok hi hg L M hs pins s σ H Q I h λj C D H5 m hn f inv q v=>⟨m,hn,λh' d=>⟨.ref D,H5,inv h' d,rfl,q⟩⟩
def Pe{X:Cx}{iter:aF}{N:ar}{j:TI}{g:TG}{tc:TT}{te:TE}(hc:X.calm=true)(S:CpScope X scope N cap)(hi:PI X tg iter j)
  (hg:∀C s₀ H₀ ex,PG (iZ X scope N C s₀ H₀ ex) tg g) (J:∀C s₀ H₀ ex,zO (iZ X scope N C s₀ H₀ ex) ifs tc) (L:∀C s₀ H₀ ex,PE (iZ X scope N C s₀ H₀ ex) elt te)
  (hs:(∀x,foldedSetIterable iter X.env x=pure x)<|>ζ):PE X (.ListComp elt [⟨tg,iter,ifs,0⟩] scope pos) (Qi cap j g tc te):=
 OA S (λ_ _ _ _ _=>hc) hi.g hg J L hs
section
variable {X:Cx}
def Gr{bs:List Bool}:∀{us:ba},Vals (bs.map V.bl) us->LSm.BoolsAre us bs:=by
 induction bs with
 | nil=>intro us r;cases r;exact .nil
 | cons b bs d=>
  intro us r
  cases r with
  | cons h t=>
   have e:_=Value.bool b:=h;subst e;exact .cons b<|d t
def Dz(hc:X.calm=true):jj X (.builtin "all") (λxs H Q=>∃(p:aq) (bs:List Bool),xs=[.ref p]/\j5 X.K H p (bs.map V.bl)/\Q (.bl<|bs.all id) H):=by
 kt_k;obtain⟨p,bs,rfl,t,q⟩:=h;kst_p
 cases rx
 obtain⟨d,z,m,B⟩:=I.list t;have hb:=Gr z;have g:=m.isList;have f:p<s.heap.objs.size:=by obtain⟨_,e,_⟩:=g;exact aZ e
 refine call_all_walk<|wpAny_pyIter_list g ?_;refine⟨s.heap.objs.size,[s.heap.objs.size,p],[s.heap.objs.size],d.toArray.size,_,_,λi=>(bs[i]?).getD true,rfl,Walks.list (A:=X.A.in1) (I.ok.hd hc) _ p (bB f) d.toArray,
  ⟨⟨_,bJ _ rfl,rfl,rfl⟩,g.push _⟩,λi v s' G F hP j=>?_,λh' C k=>?_⟩
 ·obtain⟨b,e,rfl⟩:=hb.get i v (by simpa using hP);dsimp[e,d8]at j;exact dJ j
 ·have e:((List.range d.toArray.size).all λi=>(bs[i]?).getD true)=bs.all id:=by
   rw[aX,hb.length];exact LSm.range_all bs
  rw[e];exact⟨.bl _,H,I.kept<|LSm.kept_iter k,rfl,q⟩
def wZ:jj X (.builtin "sorted") (λxs H Q=>∃(p:aq) (ns:ag),xs=[.ref p]/\(j5 X.K H p (ns.map V.int)\/l7 X.K H p (ns.map V.int))/\ns.length<64 /\
  ∀l (ns':ag),H l=none->ns'.Perm ns->ns'.Pairwise (·<=·)->Q (.ref l) (upd H l<|.lst<|ns'.map V.int)):=by
 kt_k;obtain⟨p,ns,rfl,t,L,q⟩:=h;kst_p
 cases rx
 have J:∀(d:ba) (T:String) (o:Obj) (n:Nat),(T = "list" \/ T = "tuple")->s.heap.get? p=some o->o.cls=.type T->o.data=.seq d.toArray n->Vals (ns.map V.int) d ->
   wpAny (model X.prog X.w) X.A (call (.builtin "sorted") [.ref p]) (EP X pins σ Q) X.xe s:=by
  intro d T o n W k f hd j;have hI:=intsAre_of j;have z:d.length=ns.length:=by have:=j.length;rw[aN]at this;exact this.symm
  refine Calls.call_function_entry kind_sorted plain_sorted entry_sorted (args_sorted1 _) ?_;unfold Builtin.«sorted»;refine aJ (m:=checkCount "sorted" 1 1 _)<|aP ?_;refine aJ (wpAny_collect_seq p W k f hd (λh' M=>?_)<|by rw[aX,z,cY];lia);refine aJ<|wpAny_newList ?_;have g:(h'.push<|seqObj "list" d.toArray 0).get? h'.objs.size=some (seqObj "list" d.toArray 0):=bJ _ rfl
  skip
  refine aJ<|cP<|d7 slot_list_sort ⟨_,g,rfl⟩ entry_list_sort (list_sort_tree g hI () λout ns' N G U=>⟨_,rfl,?_⟩)<|args_list_sort _;obtain⟨e,O⟩:=sortedHeap_at (out:=out) g;have C:ns'.length=ns.length:=G.length_eq;have I1:Inv X pins σ H { s with heap:=h' }:=I.kept (t':=s.toks) M;have old:∀b ob,h'.get? b=some ob->(sortedHeap (h'.push<|seqObj "list" d.toArray 0) h'.objs.size d out).get? b=some ob:=λb ob B=>by
   rw[sortedHeap_old (bB<|aZ B)<|by rw[d9];exact gU<|aZ B];exact aQ _ B
  refine aP ⟨_,rfl,.ref h'.objs.size,_,I1.laid (t':=s.toks) (o:=.lst<|ns'.map V.int) old (aO _) ?_,rfl,q _ ns' (I1.hok.fresh<|aO _) G U⟩;refine⟨by rw[aN,C,cY];lia,out.toList,e,sj N,?_⟩;rw[O]
 rcases t with t|t
 ·obtain⟨d,j,F,P⟩:=I.list t;obtain⟨o,k,f,n,hd⟩:=F.isList;exact J d "list" o n (.inl rfl) k f hd j
 ·obtain⟨d,j,F,P⟩:=I.tuple t;obtain⟨o,k,f,n,hd⟩:=F;exact J d "tuple" o n (.inr rfl) k f hd j
def xF:jj X (.type "range") (λxs H Q=>∃i j,xs=[.int i,.int j]/\∀p,H p=none->Q (.ref p) (upd H p<|.rng i j)):=by
 kt_k;obtain⟨i,j,rfl,q⟩:=h;obtain⟨u,f,rfl,⟨t,rfl⟩,⟨d,rfl⟩⟩:=vals2 r;refine call_range_2 ⟨.ref s.heap.objs.size,_,I.laid (o:=.rng i j) (λb o e=>aQ _ e) (aO _) ?_,rfl,q _ I.fresh⟩;exact⟨t,d,s.toks,bJ _ rfl⟩
abbrev jZ (i j:Int):ag:=(List.range (j-i).toNat).map λk:Nat=>i+(k:Int)
def qW(i j:Int):(jZ i j).length=(j-i).toNat:=by unfold jZ;rw[aN,gV]
def Ab{i:Int}{n:Nat}{acc:Array aa}(h:ItemsOf (λk v=>∃t,v=Value.int (i+(k:Int) * 1) t) acc n):Vals (((List.range n).map λk:Nat=>i+(k:Int)).map V.int) acc.toList:=by
 obtain⟨hs,hv⟩:=h;have d:∀(l:ba) (b:Nat),(∀j v,l[j]?=some v->∃t,v=Value.int (i+((b+j:Nat):Int)) t)->Vals (((List.range' b l.length).map λk:Nat=>i+(k:Int)).map V.int) l:=by
  intro l
  induction l with
  | nil=>intro b _;exact .nil
  | cons v l f=>
   intro b hb;rw[bw,List.range'_succ,bD,bD];refine .cons ?_ ?_
   ·obtain⟨t,e⟩:=hb 0 v rfl;exact⟨t,by rw[e];simp⟩
   ·refine f (b+1) λj w hw=>?_;obtain⟨t,e⟩:=hb (j+1) w hw;exact⟨t,by rw[e,show b+(j+1)=b+1+j by lia]⟩
 have:=d acc.toList 0 λj v g=>by
  obtain⟨t,e⟩:=hv j v (by simpa using g);exact⟨t,by rw[e,gF,Int.mul_one]⟩
 rw[b7,hs,<- gp]at this;exact this
def Oq{i j:Int}:Builtin.Range.rangeSize i j 1=(((j-i).toNat:Nat):Int):=by rw[rangeSize_one];split<;>omega
def vL(hc:X.calm=true):jj X (.type "list") (λxs H Q=>∃p i j,xs=[.ref p]/\H p=some (.rng i j)/\(-(2 ^ 62)<=i/\i<2 ^ 62/\-(2 ^ 62)<=j/\j<2 ^ 62)/\(j-i).toNat<=1000/\∀l,H l=none->Q (.ref l) (upd H l<|.lst<|(jZ i j).map V.int)):=by
 kt_k;obtain⟨p,i,j,rfl,hp,⟨C,B,k,g⟩,hn,q⟩:=h;kst_p
 cases rx
 obtain⟨t,G,v,e⟩:=I.hok p _ hp;refine call_list_range (n:=(j-i).toNat) (I.ok.hd hc) e (small_one C B k g) Oq () λh' J d z m F f=>?_;refine⟨.ref s.heap.objs.size,_,I.laid (o:=.lst<|(jZ i j).map V.int) m (aO _) ⟨?_,d.toList,z,Ab f,by rw[F]⟩,rfl,q _ I.fresh⟩;rw[aN,qW,cY];lia
end
section
variable {X:Cx}
abbrev RE (K:aA)(te:TE):TE:=λσ H Q=>te σ H λx H1=>∃a xs,x=.ref a/\j5 K H1 a xs/\∀p,H1 p=none->Q (.ref p) (upd H1 p<|.lst xs.reverse)
def K3{te:TE}{up cp:Pos}(J:PE X e te):PE X (.Subscript e (.Slice none none (some<|.UnaryOp .USub (.Constant (.int 1) kk cp) up) p2) pos) (RE X.K te):=by
 w_up;refine Subscript_<|jz (J pins s σ H _ I h) λv k ⟨x,H1,I1,r1,a,xs,ex,F,q⟩=>?_;subst ex
 cases r1
 refine wpAny_Slice ?_;rw[gX];refine aP ?_;refine aP ?_;rw[evalPart_some];refine jz ((FJ (a:=.Constant (.int 1) kk cp) Aa AJ) pins k σ H1 (λv H'=>v=.int (-1)/\H'=H1) I1 ⟨1,rfl,rfl,rfl⟩) λG d h9=>?_;obtain⟨y,z,I3,r3,m,B⟩:=h9;subst m B;obtain⟨t,rfl⟩:=r3;have I4:Inv X pins σ z { d with heap:=d.heap.push { cls:=.type "slice",data:=.fields #[.none,.none,.int (-1) t]}}:=I3.kept (t':=d.toks) λb ob q=>aQ _ q;obtain⟨its,g,f,C⟩:=I4.list F
 skip
 refine tail_any (ops:=[.ref a,.ref d.heap.objs.size]) f.isList.typeIs gR.lookup ?_ (by with_unfolding_all rfl);have j:=g.length;refine wpAny_getItem_list_slice f.isList (gI ..) .none .none (.int (-1) t) ⋯ ?_ (by rw[aX]<;>lia);rw[PySem.W.krv_pick];refine⟨.ref _,_,I4.Fq (t':=d.toks) (ys:=xs.reverse) (its:=its.reverse) g.reverse<|by rw[gB];exact C,rfl,q _ I4.fresh⟩
def yM:jj X (.builtin "isinstance") (λxs H Q=>∃x t b,xs=[x,.ty c]/\TyOf X.K H x t/\PySem.W.kitOne X.K t (.type c)=some b/\Q (.bl b) H):=by
 kt_k;obtain⟨x,t,b,rfl,ty,e,q⟩:=h;obtain⟨u,g,rfl,rx,f⟩:=vals2 r
 cases f
 exact DE I rx ty e λd=>⟨.bl b,H,I.tok d,rfl,q⟩
abbrev MS (K:aA):R2:=λx y H Q=>∃a b ys,x=.ref a/\y=.ref b/\l7 K H a []/\l7 K H b ys/\Q (.ref b) H
def F9:l8 X (binaryOp .Add) (MS X.K):=by
 kcj_m;obtain⟨a,b,ys,rfl,rfl,h1,h2,q⟩:=h
 cases rx
 cases ry
 obtain⟨us,r1,p1,_⟩:=I.tuple h1;obtain⟨B,r2,p2,_⟩:=I.tuple h2
 cases r1
 obtain⟨⟨cls,dd,data,F⟩,t,hc,n,hd⟩:=id p1;obtain⟨⟨z,m,k,j⟩,f,d,C,g⟩:=id p2;simp only at hc hd d g;subst hc hd d g;exact concat_meets ⟨_,t,rfl⟩ ⟨_,f,rfl⟩ noFill_tuple_add seq_tuple_add fO fK (fB _ _)
   (tuple_addW0 a b _ B.toArray n C dd m F j<|by simp) ⟨t,f,⟨.ref b,H,I,rfl,q⟩⟩
end
def jP:bootBuiltins "len" = some (.builtin "len"):=by decide +kernel
def xx:bootBuiltins "all" = some (.builtin "all"):=by decide +kernel
def wN:bootBuiltins "max" = some (.builtin "max"):=by decide +kernel
def NJ:bootBuiltins "min" = some (.builtin "min"):=by decide +kernel
def wz:bootBuiltins "sorted" = some (.builtin "sorted"):=by decide +kernel
def lD:bootBuiltins "isinstance" = some (.builtin "isinstance"):=by decide +kernel
def OH:bootBuiltins "int" = some (.type "int"):=by decide +kernel
def JP:bootBuiltins "bool" = some (.type "bool"):=by decide +kernel
def rL:bootBuiltins "list" = some (.type "list"):=by decide +kernel
def Ga:bootBuiltins "range" = some (.type "range"):=by decide +kernel
def KC:∀{a b:ag},a.Perm b->a.Pairwise (·<=·)->b.Pairwise (·<=·)->a=b:=λp d hb=>
 List.Perm.eq_of_pairwise (λx y _ _ h1 h2=>gx h1 h2) d hb p
def AD(i j:Int):(jZ i j).Nodup:=by
 unfold jZ;rw[List.Nodup,eS];exact List.pairwise_lt_range.imp λh=>()
def pX{i j k:Int}:k∈jZ i j ↔ i<=k/\k<j:=by
 unfold jZ;rw[bK];constructor
 ·rintro⟨a,d,rfl⟩;have:=fN.mp d;omega
 ·rintro⟨h1,h2⟩;exact⟨(k-i).toNat,fN.mpr<|by omega,by omega⟩
abbrev Kn (P:ah)(w:af)(K:aA)(mg:Str->bi)(base:au)(k:Nat)(x:Str)(ps:ar)(sp:Sp):Prop:=
 ∃(f:aq) (fd:FuncData),FnOk P w K mg base qf k f fd ps sp/\mg x=some (.ref f)/\PySem.W.keepIn K (.ref f)=true/\Binds K fd ps []
def PD{X:Cx}{k:Nat}{x:Str}{sp:Sp}{t:TA}{p:Pos}(G:Kn X.prog X.w X.K X.mg X.base k x ps sp)(hr:Room k X.A)(L:PA X (e::es) t)(hg:Gl X x<|>ε)
  (J:(x == ("__debug__" : Str))=false<|>δ) (hs:starEach (e::es) X.env=(false,eval e X.env)::starEach es X.env<|>ε) (j:((backTo pos<|starEach es X.env).any (·.1)=false)<|>ε) :
  PE X (.Call (.Name x p) (e::es) [] pos) (LM sp [] E0 t):=by
 obtain⟨f,fd,F,hm,d,hb⟩:=G;exact KW F hr hg hm d hb .nil QF L J hs j
abbrev uJ (J fs:ar):ar->List (bo)->Prop
 | [],[]=>True
 | _::N,none::c=>uJ J fs N c
 | x::N,some j::c=>J[j]?=some x/\x∈fs/\uJ J fs N c
 | _,_=>False
theorem uJ.len{fs:ar}:∀{N:ar}{c:List<|bo},uJ XN fs N c->c.length=N.length
 | [],[],_=>rfl
 | _::N,none::c,h=>cA (·+1) (uJ.len (N:=N) (c:=c) h)
 | _::N,some j::c,h=>cA (·+1) (uJ.len (N:=N) (c:=c) h.2.2)
 | [],_::_,h=>h.elim
 | _::_,[],h=>h.elim
theorem uJ.cp{fs:ar}:∀{N:ar}{c:List<|bo},uJ XN fs N c->∀(i j:Nat) (x:Str),N[i]?=some x->c[i]?=some (some j)->XN[j]?=some x/\x∈fs
 | [],[],_,i,j,x,h1,_=>by simp at h1
 | y::N,none::c,h,i,j,x,h1,h2=>by
  cases i with
  | zero=>simp at h2
  | succ i=>exact uJ.cp (N:=N) (c:=c) h i j x (by simpa using h1)<|by simpa using h2
 | y::N,some k::c,h,i,j,x,h1,h2=>by
  cases i with
  | zero=>
   simp at h1 h2;subst h1 h2;exact⟨h.1,h.2.1⟩
  | succ i=>exact uJ.cp (N:=N) (c:=c) h.2.2 i j x (by simpa using h1)<|by simpa using h2
 | [],_::_,h,_,_,_,_,_=>h.elim
 | _::_,[],h,_,_,_,_,_=>h.elim
def oZ{X:Cx}{scope:Scope}{N:ar}(fs:ar)(kind:scope.kind=.function)(nocf:∀y∈scope.names,y.2=.cell->scope.names.lookup y.1=some .cell/\(y.1,NameKind.free)∉scope.names)(nm:∀y∈scope.names,y.2=.local->scope.names.lookup y.1=some .local)
  (nolf:∀y∈scope.names,y.2=.free->scope.names.lookup y.1≠some .local) (hf:∀y∈scope.names,y.2=.free->y.1∈fs) (J:∀x∈fs,(x,NameKind.free)∈scope.names) (L:∀x∈fs,X.env.kindOf x=some .cell\/X.env.kindOf x=some .free) (cp:uJ X.N fs N cap):CpScope X scope N cap where
 kind:=kind
 nocf:=λx hf hc=>(nocf (x,.cell) hc rfl).2 hf
 nm:=nm
 fr:=λy hy e=>L _ (hf y hy e)
 rl:=λy h=>by
  have g:∀k,(k=NameKind.cell\/k=NameKind.free)->(relabel scope X.env).names.lookup y=some k->(y,NameKind.free)∈scope.names\/scope.names.lookup y=some .cell:=λk L e=>by
   obtain⟨⟨t,m⟩,f,d⟩:=bK.mp<|uy e;dsimp only at d;split at d
   ·rename_i hc
    cases d
    have:m=.free:=by
     dsimp[bZ]at hc;simpa using hc.1.1
    subst this;exact .inl f
   ·cases d
    rcases L with rfl|rfl
    ·exact .inr (nocf _ f rfl).1
    ·exact .inl f
  rcases h with h|h
  ·exact g _ (.inl rfl) h
  ·exact g _ (.inr rfl) h
 len:=cp.len
 nolf:=λx hx=>nolf (x,.free) hx rfl
 cp:=λi j x h1 h2=>by
  obtain⟨a,b⟩:=cp.cp i j x h1 h2;exact⟨a,J x b⟩
inductive Kd where
 | non|bl|int|str|lst|tup
 deriving DecidableEq
abbrev Kd.ty:Kd->aa
 | .non=>.type "NoneType" | .bl=>.type "bool" | .int=>.type "int" | .str=>.type "str" | .lst=>.type "list" | .tup=>.type "tuple"
abbrev OE (H:Hp)(x:V):Kd->Prop
 | .non=>x=.non
 | .bl=>∃b,x=.bl b
 | .int=>∃i,x=.int i
 | .str=>∃s,x=.str s
 | .lst=>∃a xs,x=.ref a/\H a=some (.lst xs)
 | .tup=>∃a xs,x=.ref a/\H a=some (.tup xs)
def OE.SI{K:aA}{H:Hp}{x:V}{k:Kd}(h:OE H x k):TyOf K H x k.ty:=by
 cases k with
 | non=>cases h;exact .non
 | bl=>obtain⟨b,rfl⟩:=h;exact .bl b
 | int=>obtain⟨b,rfl⟩:=h;exact .int b
 | str=>obtain⟨b,rfl⟩:=h;exact .str b
 | lst=>obtain⟨a,xs,rfl,e⟩:=h;exact .lst e
 | tup=>obtain⟨a,xs,rfl,e⟩:=h;exact .tup e
def JJ{K:aA}(k:Kd):PySem.W.kitOne K k.ty (.type "int")=some (decide<|k=.int\/k=.bl):=by cases k<;>rfl
def GG{K:aA}(k:Kd):PySem.W.kitOne K k.ty (.type "bool")=some (decide<|k=.bl):=by cases k<;>rfl
def kit_tuple{K:aA}(k:Kd):PySem.W.kitOne K k.ty (.type "tuple")=some (decide<|k=.tup):=by cases k<;>rfl
def Ih{K:aA}(k:Kd):PySem.W.kitOne K k.ty (.type "list")=some (decide<|k=.lst):=by cases k<;>rfl
def wJ:bootBuiltins "enumerate" = some (.type "enumerate"):=by decide +kernel
section
variable {X:Cx}
def Eh(hc:X.calm=true):jj X (.builtin "max") (λxs H Q=>∃(p:aq) (ns:ag),xs=[.ref p]/\j5 X.K H p (ns.map V.int)/\0<ns.length/\∀M,M∈ns->(∀a∈ns,a<=M)->Q (.int M) H):=by
 kt_k;obtain⟨p,ns,rfl,J,f,q⟩:=h;kst_p
 cases rx
 obtain⟨B,L,F,N⟩:=I.list J;have hi:=intsAre_of L;have m:=F.isList;obtain⟨ys,e⟩:=hi.allInts.items;have d:ns=ys.toList.map (·.1):=by
  rw[<- hi.numsOf,<- nums_intItems,<- e]
 have g:0<ys.size:=by
  have z:=f;rw[d,aN,b7]at z;exact z
 rw[e]at m;refine max_intList (I.ok.hd hc) m g λv h' O hv C=>?_;obtain⟨t,rfl⟩:=intItems_at hv;obtain⟨h1,h2⟩:=argBest_gt (numAt ys)<|ys.size-1;refine⟨.int _,H,I.kept C,⟨t,rfl⟩,q _ ?_ λa k=>?_⟩
 ·rw[d,numAt_eq];exact getD_mem (by rw[aN,b7];lia)
 ·rw[d]at k;obtain⟨j,G,rfl⟩:=mem_getD k;rw[aN,b7]at G;rw[<- numAt_eq];exact h2 j ()
end
section
variable {prog:ah}{w:af}{A:aC}{E:aa->aE->Prop}{s:aE}
def zQ(n:Nat):Builtin.Slice.sliceAdjust none none (-1) (n:Int)=((n:Int)-1,-1):=by
 unfold Builtin.Slice.sliceAdjust;rfl
def zU(n:Nat):Builtin.Slice.slicePlaces ((n:Int)-1) (-1) (-1)=n:=by
 unfold Builtin.Slice.slicePlaces;have h1:¬((-1:Int)>0):=by decide
 dsimp[h1,c_];by_cases h:n=0
 ·subst h;simp
 ·rw[aS ()];rw[show(- -1:Int)=1 by decide,ediv_one]
  lia
def sE{t:Tok}{n:Nat}{Q:Int×Int×Nat->aE->Prop}(hs:s.heap.IsSliceOf sl .none .none<|.int (-1) t)
  (h:Q ((n:Int)-1,-1,n) s):wpAny (model prog w) A (Builtin.Slice.sliceApplied (.ref sl)<|pure (n:Int)) Q E s:=by
 obtain⟨os,d,f,hds⟩:=id hs;unfold Builtin.Slice.sliceApplied Builtin.Slice.sliceFields;refine aJ<|aJ<|gn d hds (x:=.none) rfl<|aJ<|gn d hds (x:=.none) rfl<|aJ<|gn d hds (x:=.int (-1) t) rfl<|aP ?_;refine aJ (slicePart_int ?_)
 skip
 rw[aU ⋯];refine aJ<|slicePart_none<|aJ<|slicePart_none<|aJ<|aP ?_;show wpAny _ _ (match Builtin.Slice.sliceAdjust none none (-1) (n:Int)with|(lo,hi)=>pure (lo,(-1:Int),Builtin.Slice.slicePlaces lo hi<|-1)) _ _ s;rw[zQ n];show wpAny _ _ (pure ((n:Int)-1,(-1:Int),Builtin.Slice.slicePlaces ((n:Int)-1) (-1)<|-1)) _ _ s;rw[zU];exact aP h
def G4(xs:Array aa):((List.range xs.size).filterMap λ(m:Nat)=>xs[((xs.size:Int)-1+(m:Int) * (-1)).toNat]?).toArray=xs.toList.reverse.toArray:=by
 have e:(λ(m:Nat)=>xs[((xs.size:Int)-1+(m:Int) * (-1)).toNat]?)=(λx=>xs[x]?) ∘ λk=>xs.size-1-k:=by
  funext m
  have:((xs.size:Int)-1+(m:Int) * (-1)).toNat=xs.size-1-m:=()
  show xs[((xs.size:Int)-1+(m:Int) * (-1)).toNat]?=xs[xs.size-1-m]?;rw[this]
 rw[e,<- List.filterMap_map,PySem.W.krv_range,List.filterMap_reverse,PySem.W.krv_all]
def rz{t:aq}{J:Array aa}{Q:aa->aE->Prop}(L:IsTup s.heap t J)(hs:s.heap.IsSliceOf sl .none .none<|.int (-1) tk)
  (h:Q (.ref s.heap.objs.size) { s with heap:=s.heap.push { cls:=.type "tuple",data:=.seq J.toList.reverse.toArray }})
  (hsz:J.size<=sizeLine):wpAny (model prog w) A (getItem (.ref t)<|.ref sl) Q E s:=by
 have d:sizeOk (.seq J.toList.reverse.toArray):=by
  show J.toList.reverse.toArray.size<=sizeLine;rw[aX,gB,b7];exact hsz
 obtain⟨os,g,f,hds⟩:=id hs;have k:s.TypeIs (.ref sl) "slice" := ⟨os,g,f⟩;unfold getItem
 try with_reducible refine cP ?_
 first|refine aJ (aP ?_)|skip
 refine aJ<|wpAny_sequenceKey L.typeIs ⋯ ?_;refine aJ (dZ (name:=Str.ofString "__getitem__") L.typeIs b6
  (d7 b6 L.typeIs entry_tuple_getitem ?_<|args_tuple_getitem _ _))
 show wpAny _ _ (Builtin.Tuple.tupleItemsOf (.ref t) >>= _) _ _ s;refine aJ<|tupleItemsOf_ L ?_;refine aJ<|wpAny_typeOf k ?_;rw[aS ⋯];refine aJ<|sE hs ?_;have j:¬((((J.size:Int)-1) == 0 && (-1:Int) == 1 && J.size == J.size)=true):=by
  intro q;rw[bZ,bZ]at q;exact absurd q.1.2 ⋯
 show wpAny _ _ (if (((J.size:Int)-1) == 0 && (-1:Int) == 1 && J.size == J.size)=true then _ else _) _ _ s;rw[aU j,G4]
 first
  | exact aJ (m:=Builtin.Tuple.tupleExact _) (bU (aP ⟨_,rfl,aP h⟩) d)
  | exact aJ (m:=Builtin.Tuple.tupleExact _) (bU (aJ<|aP<|aP ⟨_,rfl,aP h⟩) d)
  | exact aJ (aJ (m:=Builtin.Tuple.tupleExact _)<|bU (aP<|aP ⟨_,rfl,aP h⟩) d)
  | exact aJ<|aJ (m:=Builtin.Tuple.tupleExact _)<|bU (aP ⟨_,rfl,aP h⟩) d
end
section
variable {X:Cx}
abbrev PU (K:aA)(te:TE):TE:=λσ H Q=>te σ H λx H1=>∃a xs,x=.ref a/\l7 K H1 a xs/\∀p,H1 p=none->Q (.ref p) (upd H1 p<|.tup xs.reverse)
def C8{te:TE}{up cp:Pos}(M:PE X e te):PE X (.Subscript e (.Slice none none (some<|.UnaryOp .USub (.Constant (.int 1) kk cp) up) p2) pos) (PU X.K te):=by
 w_up;refine Subscript_<|jz (M pins s σ H _ I h) λv z ⟨x,H1,I1,r1,a,xs,ex,J,q⟩=>?_;subst ex
 cases r1
 refine wpAny_Slice ?_;rw[gX];refine aP ?_;refine aP ?_;rw[evalPart_some];refine jz ((FJ (a:=.Constant (.int 1) kk cp) Aa AJ) pins z σ H1 (λv H'=>v=.int (-1)/\H'=H1) I1 ⟨1,rfl,rfl,rfl⟩) λL d h9=>?_;obtain⟨y,C,I3,r3,B,F⟩:=h9;subst B F;obtain⟨t,rfl⟩:=r3;have g:Inv X pins σ C { d with heap:=d.heap.push { cls:=.type "slice",data:=.fields #[.none,.none,.int (-1) t]}}:=I3.kept (t':=d.toks) λb ob q=>aQ _ q;obtain⟨f,k,j,G⟩:=g.tuple J
 skip
 refine tail_any (ops:=[.ref a,.ref d.heap.objs.size]) j.typeIs b6.lookup ?_ (by with_unfolding_all rfl);have m:=k.length;refine rz j (gI ..) ?_ (by rw[aX]<;>lia);refine⟨.ref _,_,g.laid (t':=d.toks) (o:=.tup xs.reverse) (λb o e=>aQ _ e) (aO _) ⟨by rw[gB];exact G,f.reverse,k.reverse,?_⟩,rfl,q _ g.fresh⟩;exact mK.new _ _
end
def w_(elt t1 i1 t2 i2:aF)(f1 f2:List aF)(scope:Scope)(pos:Pos)(it acc:aa)(env:Env) :
  compTurn (.ListComp elt [⟨t1,i1,f1,0⟩,⟨t2,i2,f2,0⟩] scope pos) 0 it acc env=(do
   standAt i1.pos
   match <- pyNext it with
   | none=>pure (.done .next)
   | some v=>
    letOwnedTupleGo t1 it v
    assign t1 env v
    let mut ok:=true
    for c in f1 do
     if ok then ok <- isTrue c env (eval c env)
    if ok then
     let x <- eval i2 env
     standAt i2.pos
     let x <- foldedSetIterable i2 env x
     let _ <- runOwn (.compStart (.ListComp elt [⟨t1,i1,f1,0⟩,⟨t2,i2,f2,0⟩] scope pos) 1 (<- holding [x] (pyIter x)) acc env) env
    again (.compLoop (.ListComp elt [⟨t1,i1,f1,0⟩,⟨t2,i2,f2,0⟩] scope pos) 0 it acc env)):=by rfl
def xq(elt t1 i1 t2 i2:aF)(f1 f2:List aF)(scope:Scope)(pos:Pos)(it acc:aa)(env:Env) :
  compTurn (.ListComp elt [⟨t1,i1,f1,0⟩,⟨t2,i2,f2,0⟩] scope pos) 1 it acc env=(do
   standAt i2.pos
   match <- pyNext it with
   | none=>pure (.done .next)
   | some v=>
    letOwnedTupleGo t2 it v
    assign t2 env v
    let mut ok:=true
    for c in f2 do
     if ok then ok <- isTrue c env (eval c env)
    if ok then
     (do let _ <- call (.builtin "list.append") [acc,<- eval elt env])
    again (.compLoop (.ListComp elt [⟨t1,i1,f1,0⟩,⟨t2,i2,f2,0⟩] scope pos) 1 it acc env)):=by rfl
section
variable {prog:ah}{w:af}{A:aC}{R:Result->aE->Prop}{s:aE}
def o8{t1:aF}{f1 f2:List aF}{env:Env}
  (h0:codeAny (model prog w) A (.compLoop (.ListComp elt [⟨t1,i1,f1,0⟩,⟨t2,i2,f2,0⟩] scope pos) 1 it acc env) R s)
  (h:wpAny (model prog w) A (pyIter it) (λit' s'=>codeAny (model prog w) A (.compLoop (.ListComp elt [⟨t1,i1,f1,0⟩,⟨t2,i2,f2,0⟩] scope pos) 1 it' acc env) R s')
   (notedBy (model prog w) A env λx s'=>R (.error x) s') s) :
  codeAny (model prog w) A (.compStart (.ListComp elt [⟨t1,i1,f1,0⟩,⟨t2,i2,f2,0⟩] scope pos) 1 it acc env) R s:=by
 refine codeAny_of_tree ?_
 skip
 refine wpAny_notedAt ?_;unfold compStart
 skip
 refine aJ<|wpAny_askSetting<|wpAny_ite ?_;split
 ·first
   | exact aJ (aP<|aP<|anI rfl h0)
   | exact aP<|anI rfl h0
 ·first
   | exact aJ (gJ<|aJ<|bY<|aJ<|dm h (λit' s' h'=>aP<|anI rfl h') λ_ _ x=>x)
   | (refine aJ<|gJ ?_;show wpAny _ _ (standAt i2.pos >>= _) _ _ s;exact aJ<|bY<|aJ<|dm h (λit' s' h'=>aP<|anI rfl h') λ_ _ x=>x)
end
abbrev HG (g:TG)(tc:TT)(te:TE)(D:aq)(L:L2.St->Hp->Prop)(σ:L2.St)(J:It)(H1:Hp):Prop:=
 ∃V:Nat->Nat->L2.St->Hp->Prop,(∃m,V 0 m σ H1)/\∀i m f H',V i m f H' ->
  (J.stop i H'/\L f H')\/(J.go i H'/\∀x H2,J.yld i H' x H2->g x f H2 λd k=>tc d k λb j=>
   if b=true then te d j λy H5=>∃ys,H5 D=some (.lst ys)/\ys.length<sizeLine/\∃m',m'<m/\V (i+1) m' d (upd H5 D<|.lst<|ys++[y])
   else ∃m',m'<m/\V (i+1) m' d j)
def Au{Z:Cx}{t1:aF}{f1:List aF}{fp:bd}{tn:Nat->au->Prop}{H:Hp}{s:aE}{g:TG}{tc:TT}{te:TE}{Nn:L2.St->Hp->Prop}
  (hc:Z.calm=true) (hxe:Z.xe=λ_ _=>False) (T:Turn Z.prog Z.w Z.K tg J fp it tn) (I:Inv Z pins σ H s) (st:tn 0 s.heap) (hf:∀b∈fp,m9 Z pins H b) (hg:PG Z tg g) (ht:zO Z ifs tc) (he:PE Z elt te) (goal:HG g tc te D Nn σ J H) :
  codeAny (model Z.prog Z.w) Z.A (.compLoop (.ListComp elt [⟨t1,i1,f1,0⟩,⟨tg,i2,ifs,0⟩] scope pos) 1 (.ref it) (.ref D) Z.env) (λr s'=>r=.ok .next/\∃σ' H',Inv Z pins σ' H' s'/\Nn σ' H') s:=by
 obtain⟨V,⟨m0,v0⟩,C⟩:=goal;have stat:∀{H':Hp},(∀b∈fp,H' b=none)->∀b∈fp,m9 Z pins H' b:=λhn b hb=>⟨hn b hb,(hf b hb).2⟩;refine gE rfl (λn s'=>∃i σ' H',Inv Z pins σ' H' s'/\tn i s'.heap/\(∀b∈fp,H' b=none)/\V i n σ' H') (λn W hI=>?_) m0 ⟨0,σ,H,I,st,λb hb=>(hf b hb).1,v0⟩;obtain⟨i,σ5,H5,U,G,F,w5⟩:=hI
 skip
 refine gS ?_;rw[xq];refine aJ (bY<|aJ ?_)
 rcases C i n σ5 H5 w5 with⟨B,q⟩|⟨go,step⟩
 ·refine jz (T.done Z rfl rfl rfl hc i pins W σ5 H5 _ U (stat F) G B) λr s6 h9=>?_;obtain⟨hr,I6⟩:=h9;subst hr;exact aP ⟨rfl,σ5,H5,I6,q⟩
 ·refine jz (T.item Z rfl rfl rfl hc i pins W σ5 H5 _ U (stat F) G go) λr s6 h9=>?_;obtain⟨u,hr,h6⟩:=h9;subst hr;kpc_g;f_are;have k:∀{α:Type} {t:Sem α} {Q Y:α->aE->Prop} {E:aa->aE->Prop} {s:aE},wpAny (model Z.prog Z.w) Z.A t Q Z.xe s->(∀a s,Q a s->Y a s)->wpAny (model Z.prog Z.w) Z.A t Y E s:=λh hQ=>by
   rw[hxe]at h;exact rF h hQ
  refine aJ<|k (hg _ s7 σ5 H7 x u _ I7' r7<|step x H7 y7) λ_ s8 ⟨σ8,H8,I8,q8⟩=>?_;refine aJ<|k (ht _ s8 σ8 H8 _ I8 q8) λok s9 ⟨H9,P,L⟩=>?_;have j:∀{f:aE} {H10:Hp},Inv Z (pins++oQ fp s7.heap) σ8 H10 f->(∃m',m'<n/\V (i+1) m' σ8 H10) ->
    ∃m,m<n/\∃i σ' H',Inv Z pins σ' H' f/\tn i f.heap/\(∀b∈fp,H' b=none)/\V i m σ' H':=λ{f H10} I10 h9=>by
   obtain⟨m',hm,w10⟩:=h9;kj_on;obtain⟨o,e,d⟩:=T.obj _ _ st7 b hb;o_rec
  cases ok with
  | false=>
   rw[aU bg]at L;exact aP ⟨rfl,j P L⟩
  | true=>
   rw[aS rfl]at L;refine aJ<|aJ<|k (he _ s9 σ8 H9 _ P L) λy f ⟨z,H10,I10,M,ys,hD,hz,w10⟩=>?_;refine aJ<|k (sS _ f σ8 H10 (.ref D) [z] _ [y] (λ_ H'=>H'=upd H10 D (.lst<|ys++[z])) I10 rfl (.cons M .nil) ⟨_,ys,z,rfl,rfl,hD,hz,rfl⟩) λ_ s11 ⟨_,H11,N,_,O⟩=>?_;subst O;exact aP<|aP ⟨rfl,j N w10⟩
abbrev KI (cap:List<|bo)(g:TG)(tc:TT)(wi2:TI)(g2:TG)(tc2:TT)(te:TE)(σ:L2.St)(Q:VK)(J:It)(H1:Hp):Prop:=∀D,H1 D=none ->
 ∃W:Nat->Nat->L2.St->Hp->Prop,(∃m,W 0 m (cap.map<|Gz σ)<|upd H1 D<|.lst [])/\∀i m f H',W i m f H' ->
  (J.stop i H'/\Q (.ref D) H')\/(J.go i H'/\∀x H2,J.yld i H' x H2->g x f H2 λd k=>tc d k λb j=>
   if b=true then wi2 d j (HG g2 tc2 te D (λσ5 H5=>∃m',m'<m/\W (i+1) m' σ5 H5) d)
   else ∃m',m'<m/\W (i+1) m' d j)
abbrev Rl (cap:List<|bo)(j:TI)(g:TG)(tc:TT)(wi2:TI)(g2:TG)(tc2:TT)(te:TE):TE:=λσ H Q=>j σ H<|KI cap g tc wi2 g2 tc2 te σ Q
def Nl{X:Cx}{iter:aF}{N:ar}{wi wi2:TI}{g g2:TG}{tc tc2:TT}{te:TE}(hc:X.calm=true)(S:CpScope X scope N cap)(hi:PI X tg iter wi)
  (hg:∀C s₀ H₀ ex,PG (iZ X scope N C s₀ H₀ ex) tg g) (ht:∀C s₀ H₀ ex,zO (iZ X scope N C s₀ H₀ ex) ifs tc) (hi2:∀C s₀ H₀ ex,PI (iZ X scope N C s₀ H₀ ex) tg2 iter2 wi2)
  (hg2:∀C s₀ H₀ ex,PG (iZ X scope N C s₀ H₀ ex) tg2 g2) (ht2:∀C s₀ H₀ ex,zO (iZ X scope N C s₀ H₀ ex) ifs2 tc2) (he:∀C s₀ H₀ ex,PE (iZ X scope N C s₀ H₀ ex) elt te)
  (hs:(∀x,foldedSetIterable iter X.env x=pure x)<|>ζ) (hs2:∀env x,foldedSetIterable iter2 env x=pure x:=by intro _ _;rfl):PE X (.ListComp elt [⟨tg,iter,ifs,0⟩,⟨tg2,iter2,ifs2,0⟩] scope pos) (Rl cap wi g tc wi2 g2 tc2 te):=by
 w_up;k_ne;rw[eval_ListComp];refine fC (use:=none) rfl hs (qA hfree) S.kind S.nm<|jz (hi pins s σ H _ I h) λxv s1 h1=>jz h1 λitv f h2=>?_;obtain⟨it,fp,tn,J,H2,rfl,I2,T,Y,f2,h2⟩:=h2;refine bU<|w6 λO j old k=>?_;obtain⟨W,⟨m0,w0⟩,V⟩:=h2 f.heap.objs.size I2.fresh;dsimp only at j old k ⊢;have I3:Inv X pins σ (upd H2 f.heap.objs.size<|.lst []) { f with heap:=f.heap.push {}}:=I2.Fq (t':=f.toks) (its:=[]) .nil<|bL _;have hfp:∀b∈fp,∃o,f.heap.get? b=some o:=λb hb=>by
  obtain⟨o,e,_⟩:=T.obj 0 _ Y b hb;exact⟨o,e⟩
 have neD:∀b∈fp,b≠f.heap.objs.size:=λb hb=>by
  obtain⟨o,e⟩:=hfp b hb;exact bB<|aZ e
 have f3:∀b∈fp,m9 X pins (upd H2 f.heap.objs.size<|.lst []) b:=λb hb=>⟨by rw[iG<|neD b hb];exact(f2 b hb).1,(f2 b hb).2⟩;have hDC:f.heap.objs.size≠(f.heap.push {}).objs.size:=by rw[d9];exact bB (bE _)
 have I4:=zT (tk:=f.toks+([]:List<|Str×aa).length) (fp:=fp) S I3 f3 (λb hb=>by
  obtain⟨o,e⟩:=hfp b hb;exact⟨o,aQ _ e⟩) j k old
 have U:tn 0 O:=T.keep _ _ _ Y λb hb o e=>old b o<|aQ _ e;have stat:∀{H':Hp},(∀b∈fp,H' b=none)->∀b∈fp,m9 (iZ X scope N (f.heap.push {}).objs.size { f with heap:=f.heap.push {}} (upd H2 f.heap.objs.size<|.lst []) fp) [] H' b:=λhn b hb=>by
  have ok:=I4.ok;kpf_c
 have M:∀s4:aE,s4={ f with heap:=O,toks:=f.toks+([]:List<|Str×aa).length } ->
   codeAny (model X.prog X.w) X.A (.compLoop (.ListComp elt [⟨tg,iter,ifs,0⟩,⟨tg2,iter2,ifs2,0⟩] scope pos) 0 (.ref it) (.ref f.heap.objs.size)<|compEnvC scope (cellsFrom ((f.heap.push {}).objs.size+1) scope.names<|o_ X.env scope.names []) (f.heap.push {}).objs.size X.env)
    (compPost (model X.prog X.w) X.A X.xe none (EP X pins σ Q) (.ref f.heap.objs.size) (f.heap.push {}).objs.size) s4:=by
  rintro s4 rfl;refine gE rfl (λn s'=>∃i B H',Inv (iZ X scope N (f.heap.push {}).objs.size { f with heap:=f.heap.push {}} (upd H2 f.heap.objs.size<|.lst []) fp) [] B H' s'/\tn i s'.heap/\(∀b∈fp,H' b=none)/\W i n B H') (λn s5 hI=>?_) m0 ⟨0,_,_,I4,U,λb hb=>(f3 b hb).1,w0⟩;obtain⟨i,σ5,H5,I5,st5,fr5,w5⟩:=hI;show wpAny _ X.A ((compTurn (.ListComp elt [⟨tg,iter,ifs,0⟩,⟨tg2,iter2,ifs2,0⟩] scope pos) 0 (.ref it) (.ref f.heap.objs.size)<|compEnvC scope (cellsFrom ((f.heap.push {}).objs.size+1) scope.names<|o_ X.env scope.names []) (f.heap.push {}).objs.size X.env).onRaise λx=>do noteFrame x _;theTreesLotGoes x) _ _ s5;refine gS ?_;rw[w_];refine aJ (bY<|aJ ?_)
  rcases V i n σ5 H5 w5 with⟨stop,q⟩|⟨go,step⟩
  ·refine jz (T.done (iZ X scope N (f.heap.push {}).objs.size { f with heap:=f.heap.push {}} (upd H2 f.heap.objs.size<|.lst []) fp) rfl rfl rfl hc i [] s5 σ5 H5 _ I5 (stat fr5) st5 stop) λr s6 h9=>?_;obtain⟨hr,I6⟩:=h9;subst hr;obtain⟨m6,hn6,_⟩:=I6.loc;refine aP ⟨m6,hn6,λh' sb=>?_⟩;have u6:=I6.base;have nC:∀b o,(f.heap.push {}).get? b=some o->b≠(f.heap.push {}).objs.size:=λb o e=>bB<|aZ e;refine⟨.ref f.heap.objs.size,H5,?_,rfl,q⟩;kd_p
   ·exact sb.extBut b o (nC b o e) (u6.keep b o e n hb hx)
   ·obtain⟨sl,z⟩:=u6.slot b o e n hb hx;exact⟨sl,sb.extBut b _ (nC b o e) z⟩
   ·exact u6.free b o e n hx
   ·obtain⟨o',z⟩:=u6.there b o e hx;exact⟨o',sb.extBut b _ (nC b o e) z⟩
   ·intro b o e;have hb:∀c v,H5 c=some v->c≠(f.heap.push {}).objs.size:=λc v e z=>by
     rw[z]at e;have:=I6.free;rw[show H5 (f.heap.push {}).objs.size=none from this]at e
     cases e
    refine(I6.hok b o e).stay (λc v hc q=>sb.extBut c v ?_ q) (λ_ q=>q) λ_ _ q=>q
    rcases hc with z|z
    ·rw[z];exact hb b o e
    ·exact hb c _ z
   ·intro b hb;obtain⟨_,z1,_,z3,z4,z5⟩:=f3 b hb;exact⟨z3,z1,z4,z5⟩
  ·refine jz (T.item (iZ X scope N (f.heap.push {}).objs.size { f with heap:=f.heap.push {}} (upd H2 f.heap.objs.size<|.lst []) fp) rfl rfl rfl hc i [] s5 σ5 H5 _ I5 (stat fr5) st5 go) λr s6 h9=>?_;obtain⟨u,hr,h6⟩:=h9;subst hr;kpc_g;f_are;kln_w;refine aJ<|rF (ht _ _ _ fp _ s8 σ8 H8 _ I8 q8) λok s9 ⟨H9,I9,q9⟩=>?_;have K:∀{G:aE} {H10:Hp} {t:L2.St},Inv (iZ X scope N (f.heap.push {}).objs.size { f with heap:=f.heap.push {}} (upd H2 f.heap.objs.size<|.lst []) fp) ([]++oQ fp s7.heap) t H10 G->(∃m',m'<n/\W (i+1) m' t H10) ->
     ∃m,m<n/\∃i B H',Inv (iZ X scope N (f.heap.push {}).objs.size { f with heap:=f.heap.push {}} (upd H2 f.heap.objs.size<|.lst []) fp) [] B H' G/\tn i G.heap/\(∀b∈fp,H' b=none)/\W i m B H':=λ{G H10 t} I10 h9=>by
    obtain⟨m',hm,w10⟩:=h9;refine⟨m',hm,i+1,t,H10,I10.ku,T.keep _ _ _ st7 λb hb o e=>(I10.pin (b,o)<|aT _<|aT _<|jk hb e).1,λb hb=>?_,w10⟩;obtain⟨o,e,d⟩:=T.obj _ _ st7 b hb;o_rec
   cases ok with
   | false=>
    rw[aU bg]at q9;exact aP ⟨rfl,K I9 q9⟩
   | true=>
    rw[aS rfl]at q9;refine aJ<|rF (hi2 _ _ _ fp _ s9 σ8 H9 _ I9 q9) λxv G h10=>aJ<|bY ?_;rw[hs2];refine aJ<|aP<|aJ<|cP<|rF h10 λitv s11 h11=>?_;obtain⟨it2,fp2,tn2,J2,H11,rfl,P,T2,L,f11,goal⟩:=h11;have hcz:=hc;have F:=(λ(Z:Cx) (h1:Z.calm=true) (h2:Z.xe=λ_ _=>False) T2 P=>Au (Z:=Z) (t1:=tg) (i1:=iter) (f1:=ifs) (i2:=iter2) (scope:=scope) (pos:=pos) h1 h2 T2 P) _ (show(iZ X scope N _ _ _ fp).calm=true from hcz) rfl T2 P L f11 (hg2 _ _ _ fp) (ht2 _ _ _ fp) (he _ _ _ fp) goal;refine aJ<|wpAny_runOwn<|gD (o8 F<|T2.self _ 0 _ _ _ L F) λr s12 hr12=>?_;obtain⟨hr,σ12,H12,I12,n12⟩:=hr12;subst hr;exact aP ⟨rfl,K I12 n12⟩
 exact codeAny_compStart_list (M _ rfl)<|T.self _ 0 _ _ _ U<|M _ rfl
end L2
namespace L2
open PySem PySem.Spec PyProof.Rows
open PySem.SeqAt
open PySem.AutoSeq1 (wpAny_loadPart')
open PySem.MeetsSeq PySem.MeetsSeq2 PySem.MeetsSeq3 PySem.SeqAt
section
variable {X:Cx}
def G3:l8 X (binaryOp .FloorDiv) (rI (λ_ j=>0<j/\j<18446744073709551616) λi j=>.int<|i / j):=Q5 λi j _ _ _ _ _ hc q=>by
 have h1:(0:Int)<j:=hc.1;have h2:j<18446744073709551616:=hc.2;refine floordiv_int (by omega) (by rw[Int.fdiv_eq_ediv_of_nonneg i<|by omega];exact q)<|.inl<|PyProof.noPylong_of_log2 ?_;exact bN ((Nat.log2_lt<|by omega).mpr<|show j.natAbs<2 ^ 64 by omega) ⋯
end
end L2
namespace L2
open PySem PySem.Spec PyProof.Rows
abbrev Sq (x:Str):It:=⟨λi _=>i<x.cps.size,λi H v H'=>H'=H/\∃c,x.cps[i]?=some c/\v=.str ⟨#[c]⟩,λi _=>i=x.cps.size⟩
def HD{P:ah}{w:af}{K:aA}(x:Str)(t:Tok)(it:aq):Turn P w K tg (Sq x) [it] it (λi h=>h.IsStrIter it "str_ascii_iterator" x t i) where
 mem:=by simp
 obj:=λi h st b hb=>by
  have e:b=it:=by simpa using hb
  subst e;obtain⟨o,e,c,d⟩:=st;exact⟨o,e,λv z=>by rw[d]at z;cases z⟩
 keep:=λi h h' st k=>let⟨o,ho,r⟩:=st;⟨o,k it (by simp) o ho,r⟩
 item:=by
  room;subst hP hw hK;fin2;have W:=Walks.strAscii (prog:=X.prog) (w:=X.w) (I.ok.hd hc) it x t;refine W.item i s _ _ hg st λv h' m hv f g=>?_;obtain⟨c,u,j,rfl⟩:=hv;have I1:Inv X pins σ H { s with heap:=h',toks:=m }:=I.turned (λb o hb e=>g b o (by simpa using hb) e) f0 f1 f3 f4 f5;obtain⟨o,e,B,d⟩:=id f;exact⟨_,rfl,wD (s:={ s with heap:=h',toks:=m }) e B d ⋯ ⟨.str ⟨#[c]⟩,H,I1,⟨u,rfl⟩,⟨rfl,c,j,rfl⟩,f,λb hb=>(hf b hb).1⟩⟩
 done:=by
  room;subst hP hw hK;fin2;have hg:i=x.cps.size:=hg;subst hg;have W:=Walks.strAscii (prog:=X.prog) (w:=X.w) (I.ok.hd hc) it x t;exact W.done s _ _ st λh' m g=>⟨rfl,I.turned (λb o hb e=>g b o (by simpa using hb) e) f0 f1 f3 f4 f5⟩
 self:=λ_ _ _ _ _ st h=>wpAny_pyIter_striter_ascii st h
section
variable {X:Cx}{tg:aF}
abbrev Rm (tl:TE):TI:=λσ H R=>tl σ H λx H1=>∃y:Str,x=.str y/\y.cps.all (· < 128)=true/\R (Sq y) H1
def Ou{tl:TE}(j:PE X l tl):PI X tg l (Rm tl):=by
 intro pins s σ H R I h;refine jz (j pins s σ H _ I h) λv d h9=>?_;obtain⟨x,H1,I1,r1,g⟩:=h9;obtain⟨y,e,f,q⟩:=g;subst e;obtain⟨t,rfl⟩:=r1;refine wpAny_pyIter_ascii f ?_;refine⟨d.heap.objs.size,[d.heap.objs.size],_,_,H1,rfl,I1.kept (t':=d.toks) λb o e=>aQ _ e,HD y t _,⟨_,bJ _ rfl,rfl,rfl⟩,λb hb=>?_,q⟩;have e:b=d.heap.objs.size:=by simpa using hb
 subst e;cb_eq
end
section
variable {κ:Type}[DecidableEq κ]
abbrev m7 (kvs:List<|κ×V)(k:κ):Option V:=(kvs.find? λd=>decide<|d.1=k).map (·.2)
abbrev putK (kvs:List<|κ×V)(k:κ)(v:V):List (κ×V):=
 if (kvs.any λd=>decide<|d.1=k)=true then kvs.map (λd=>if d.1=k then(d.1,v)else d)else kvs++[(k,v)]
def pY{p:κ×V}{r:List<|κ×V}{k:κ}(e:p.1=k):m7 (p::r) k=some p.2:=by simp[m7,cC,e]
def pV{p:κ×V}{r:List<|κ×V}{k:κ}(e:¬p.1=k):m7 (p::r) k=m7 r k:=by simp[m7,cC,e]
theorem qY(k:κ):∀kvs:List<|κ×V,(kvs.any λkv=>decide<|kv.1=k)=(m7 kvs k).isSome
 | []=>rfl
 | p::r=>by
  rw[eN];by_cases e:p.1=k
  ·dsimp[pY e,bh e,Bool.true_or,isSome_some]
  ·rw[pV e,bx e,Bool.false_or];exact qY k r
def nj(kvs:List<|κ×V)(k:κ)(v:V):(putK kvs k v).length<=kvs.length+1:=by
 unfold putK;split
 ·rw[aN];lia
 ·rw[aV,bw,dG];lia
def u0.DL{o:Option V}{u:bi}(r:u0 o u):o.isSome=u.isSome:=by
 cases o with
 | none=>cases u with
  | none=>rfl
  | some _=>exact(show False from r).elim
 | some _=>cases u with
  | none=>exact(show False from r).elim
  | some _=>rfl
def KV.val(r:KV kvs vs)(k:κ):u0 (m7 kvs k) (valueAt vs k):=by
 unfold KV at r
 induction r with
 | nil=>exact True.intro
 | @cons p q ps f h t g=>
  obtain⟨h1,h2⟩:=h;by_cases e:p.1=k
  ·have d:q.1=k:=h1.symm.trans e;have b:valueAt (q::f) k=some q.2:=by simp[valueAt,cC,d]
   rw[pY e,b];exact h2
  ·have d:¬q.1=k:=λz=>e<|h1.trans z;have b:valueAt (q::f) k=valueAt f k:=by simp[valueAt,cC,d]
   rw[pV e,b];exact g
def KV.any{kvs:List<|κ×V}{vs:List<|κ×aa}(r:KV kvs vs)(k:κ):(kvs.any λkv=>decide<|kv.1=k)=vs.any λkv=>decide (kv.1=k):=by
 unfold KV at r
 induction r with
 | nil=>rfl
 | cons h t d=>rw[eN,eN,d,h.1]
def KV.repl{kvs:List<|κ×V}{vs:List<|κ×aa}(r:KV kvs vs)(k:κ)(ry:RelV y u) :
  KV (kvs.map λkv=>if kv.1=k then(kv.1,y)else kv) (vs.map λkv=>if kv.1=k then(kv.1,u)else kv):=by
 unfold KV at r ⊢
 induction r with
 | nil=>exact .nil
 | @cons p q ps f h t d=>
  rw[bD,bD];refine .cons ?_ d;obtain⟨h1,h2⟩:=h;by_cases e:p.1=k
  ·rw[aS e,aS<|h1.symm.trans e];exact⟨h1,ry⟩
  ·rw[aU e,aU λz=>e<|h1.trans z];exact⟨h1,h2⟩
def KV.put(r:KV kvs vs)(k:κ)(ry:RelV y u):KV (putK kvs k y) (stored vs k u):=by
 unfold putK stored;rw[r.any k];by_cases e:(vs.any λd=>decide<|d.1=k)=true
 ·rw[aS e,aS e];exact r.repl k ry
 ·rw[aU e,aU e];exact Paired.snoc r ⟨rfl,ry⟩
def KV.length{kvs:List<|κ×V}{vs:List<|κ×aa}(r:KV kvs vs):kvs.length=vs.length:=gk r
end
def AR{P:ah}{w:af}{k:Key}(r:RelV (kV k) u):(jD P w).is k u=true:=by
 cases k with
 | inl i=>obtain⟨t,e⟩:=(show ∃t,u=Value.int i t from r);subst e;exact yd P w i t
 | inr x=>obtain⟨t,e⟩:=(show ∃t,u=Value.str x t from r);subst e;exact yW P w x t
theorem wB{P:ah}{w:af}:∀{ks:List Key}{us:ba},Vals (ks.map kV) us->ItemsAre (jD P w) ks us
 | [],_,r=>by rw[dM]at r;cases r;exact .nil
 | k::ks,_,r=>by
  rw[bD]at r
  cases r with
  | cons h t=>exact .cons (AR h)<|wB t
meta abbrev KT (H:Hp):List (List Key×V)->List (List Key×aq×aa)->Prop:=Paired λp q=>p.1=q.1/\H q.2.1=some (.tup<|p.1.map kV)/\RelV p.2 q.2.2
def KT.val{H:Hp}(r:KT H kvs xs)(k:List Key):u0 (m7 kvs k) ((atKey xs k).map (·.2)):=by
 induction r with
 | nil=>exact True.intro
 | @cons p q ps f h t g=>
  obtain⟨h1,_,h2⟩:=h;by_cases e:p.1=k
  ·have d:q.1=k:=h1.symm.trans e;have b:atKey (q::f) k=some q.2:=by simp[atKey,cC,d]
   rw[pY e,b];exact h2
  ·have d:¬q.1=k:=λz=>e<|h1.trans z;have b:atKey (q::f) k=atKey f k:=by simp[atKey,cC,d]
   rw[pV e,b];exact g
def KT.repl{H:Hp}{kvs:List<|List Key×V}{xs:List<|List Key×aq×aa}(r:KT H kvs xs)(k:List Key)(ry:RelV y u) :
  KT H (kvs.map λkv=>if kv.1=k then(kv.1,y)else kv) (xs.map<|putAt k u):=by
 induction r with
 | nil=>exact .nil
 | @cons p q ps g h t f=>
  rw[bD,bD];refine .cons ?_ f;obtain⟨h1,h2,d⟩:=h;unfold putAt;by_cases e:p.1=k
  ·rw[aS e,aS<|h1.symm.trans e];exact⟨h1,h2,ry⟩
  ·rw[aU e,aU λz=>e<|h1.trans z];exact⟨h1,h2,d⟩
def KT.put{H:Hp}(r:KT H kvs xs)(k:List Key)(hb:H b=some (.tup<|k.map kV))(ry:RelV y u) :
  KT H (putK kvs k y) (storedH xs k b u):=by
 have e:(kvs.any λd=>decide<|d.1=k)=(atKey xs k).isSome:=by
  rw[qY,(r.val k).DL,isSome_map]
 unfold putK storedH;rw[e];by_cases q:(atKey xs k).isSome=true
 ·rw[aS q,aS q];exact r.repl k ry
 ·rw[aU q,aU q];exact Paired.snoc r ⟨rfl,hb,ry⟩
def KT.keeps{H H':Hp}(r:KT H kvs xs)(j:∀b ys,H b=some (.tup ys)->H' b=some (.tup ys)):KT H' kvs xs:=
 Paired.MJ r λ_ _ z=>⟨z.1,j _ _ z.2.1,z.2.2⟩
section
variable {P:ah}{w:af}{H:Hp}{h:au}{a:aq}
def LY(ok:qT P w H h)(e:Rd H a u):jx P w H h a u:=e.ok ok
def C9{kvs:List<|Key×V}(ok:qT P w H h)(e:Rd H a<|.dK kvs):kvs.length<=sizeLine/\(a == sysModules)=false/\∃vs,KV kvs vs/\h.DictOf (jD P w) a vs:=
 show jx P w H h a (.dK kvs)from LY ok e
def Lo{kvs:List<|Key×V}(ok:qT P w H h)(e:H a=some (.dK kvs)):kvs.length<=sizeLine/\(a == sysModules)=false/\∃vs,KV kvs vs/\h.DictOf (jD P w) a vs:=C9 ok<|.inl e
def sJ{ks:List Key}(ok:qT P w H h)(e:H a=some (.tup<|ks.map kV)):(tupleKind<|jD P w).is h ks a:=by
 obtain⟨_,d,r,o,h1,h2,_,n,f⟩:=(show jx P w H h a (.tup<|ks.map kV)from ok a _ e);exact⟨o,d.toArray,n,h1,h2,f,by simpa using wB r⟩
def Ca{kvs:List<|List Key×V}(ok:qT P w H h)(e:Rd H a<|.dT kvs):kvs.length<=sizeLine/\(a == sysModules)=false /\
  ∃xs,KT H kvs xs/\h.DictOfH (tupleKind<|jD P w) a xs:=by
 obtain⟨z,y,xs,r,o,es,ep,h1,h2,j,g,f⟩:=(show jx P w H h a (.dT kvs)from LY ok e);refine⟨z,y,xs,r,o,es,ep,h1,h2,j,g,λx hx=>?_,f⟩;have all:∀{l:List<|List Key×V} {m:List<|List Key×aq×aa},KT H l m->∀x∈m,(tupleKind<|jD P w).is h x.1 x.2.1:=by
  intro l m q
  induction q with
  | nil=>intro x hx;exact nomatch hx
  | @cons p q ps B d t k=>
   intro x hx
   rcases a_.mp hx with e|hx
   ·subst e;exact sJ ok (by rw[<- d.1];exact d.2.1)
   ·exact k x hx
 exact all r x hx
def vR{kvs:List<|List Key×V}(ok:qT P w H h)(e:H a=some (.dT kvs)):kvs.length<=sizeLine/\(a == sysModules)=false /\
  ∃xs,KT H kvs xs/\h.DictOfH (tupleKind<|jD P w) a xs:=Ca ok<|.inl e
end
abbrev tZ (H:Hp)(a:aq)(y:V)(r:Option V):Prop:=
 (∃kvs k,Rd H a (.dK kvs)/\y=kV k/\r=m7 kvs k)\/∃kvs k b,Rd H a (.dT kvs)/\y=.ref b/\H b=some (.tup<|k.map kV)/\r=m7 kvs k
abbrev uQ (H:Hp)(a:aq)(y v:V)(H':Hp):Prop:=
 (∃kvs k,H a=some (.dK kvs)/\y=kV k/\kvs.length<sizeLine/\H'=upd H a (.dK<|putK kvs k v)) \/
 ∃kvs k b,H a=some (.dT kvs)/\y=.ref b/\H b=some (.tup<|k.map kV)/\kvs.length<sizeLine/\H'=upd H a (.dT<|putK kvs k v)
theorem tZ.k{H:Hp}{a:aq}{k:Key}(e:H a=some (.dK kvs)):tZ H a (kV k) (m7 kvs k):=.inl ⟨kvs,k,.inl e,rfl,rfl⟩
def tZ.t{H:Hp}{a:aq}{k:List Key}(e:H a=some (.dT kvs))(j:H b=some (.tup<|k.map kV)):tZ H a (.ref b) (m7 kvs k):=.inr ⟨kvs,k,b,.inl e,rfl,j,rfl⟩
theorem uQ.k{H:Hp}{a:aq}{kvs:List<|Key×V}{k:Key}{v:V}(e:H a=some (.dK kvs))(j:kvs.length<sizeLine):uQ H a (kV k) v (upd H a<|.dK<|putK kvs k v):=.inl ⟨kvs,k,e,rfl,j,rfl⟩
def uQ.t{H:Hp}{a:aq}{kvs:List<|List Key×V}{k:List Key}{v:V}(e:H a=some (.dT kvs))(j:H b=some (.tup<|k.map kV))(J:kvs.length<sizeLine) :
  uQ H a (.ref b) v (upd H a<|.dT<|putK kvs k v):=.inr ⟨kvs,k,b,e,rfl,j,J,rfl⟩
section
variable {X:Cx}{pins:bt}{σ:St}{H:Hp}{s:aE}{a:aq}{y v:V}{u r:aa}{o:Option V}{A:aC}{E:aa->aE->Prop}
def Inv.big(I:Inv X pins σ H s):sysModules<s.heap.objs.size:=by
 have h:mainGlobals<s.heap.objs.size:=(I.mod.glob.keeps I.bk).lt;exact Nat.lt_trans ⋯ h
def DJ{Q:aa->aE->Prop}(J:A.units+1<cLine)(I:Inv X pins σ H s)(g:tZ H a y<|some v)(ry:RelV y u)(h:∀w' s',Inv X pins σ H s'->RelV v w'->Q w' s') :
  wpAny (model X.prog X.w) A (getItem (.ref a) u) Q E s:=by
 rcases g with⟨kvs,k,e,j,l⟩|⟨kvs,k,b,e,j,t,l⟩
 ·subst j;obtain⟨z,hd,B,f,dd⟩:=C9 I.hok e;obtain⟨w',hw,d⟩:=u0.some_of (v:=v) (o:=valueAt B k) (by rw[l];exact f.val k);exact wpAny_getItem_of (AR ry) dd.mapOf hw (h w' _ (I.tok _) d)
 ·subst j
  cases(show u=Value.ref b from ry)
  obtain⟨z,hd,xs,f,dd⟩:=Ca I.hok e;obtain⟨w',hw,d⟩:=u0.some_of (v:=v) (o:=(atKey xs k).map (·.2)) (by rw[l];exact f.val k);obtain⟨p,hp,m⟩:=bu.mp hw;refine wpAny_getItem_heap (gK J) (sJ I.hok t) dd hp ?_;rw[m];exact h w' _ (I.tok _) d
def qc{h':au}{t':Nat}{ob:HO}(I:Inv X pins σ H s)(j:Qo<|H a)(hs:Heap.SameBut a s.heap h')(J:∃q,h'.get? a=some q)(new:jx X.prog X.w (upd H a ob) h' a ob) :
  Inv X pins σ (upd H a ob) { s with heap:=h',toks:=t' }:=
 I.write (x:=a) (e:=a) j (.inl rfl) (λb q hb z=>(hs.2 b hb).trans z) J new
def Hz{P:ah}{w:af}{H':Hp}{h':au}{kvs:List<|Key×V}(z:kvs.length<=sizeLine)(hd:(a == sysModules)=false)(j:KV kvs vs)(dd:h'.DictOf (jD P w) a vs) :
  jx P w H' h' a (.dK kvs):=⟨z,hd,vs,j,dd⟩
def DA{H':Hp}{Q:Unit->aE->Prop}(Z:A.units+1<cLine)(I:Inv X pins σ H s)(g:uQ H a y v H')(ry:RelV y u)(U:RelV v r)(h:∀s',Inv X pins σ H' s'->Q Unit.unit s') :
  wpAny (model X.prog X.w) A (setItem (.ref a) u r) Q E s:=by
 rcases g with⟨kvs,k,e,m,l,t⟩|⟨kvs,k,b,e,m,G,l,t⟩
 ·subst m t;obtain⟨z,hd,M,d,dd⟩:=Lo I.hok e;have B:M.length<=sizeLine:=by rw[<- d.length];exact z
  have C:(putK kvs k v).length<=sizeLine:=by have:=nj kvs k v;lia
  refine wpAny_setItem_pairs (hsz:=B) (AR ry) dd λh' f hs=>h _ ?_;have J:∃q,h'.get? a=some q:=let⟨q,_,_,j,_⟩:=f;⟨q,j⟩
  exact qc I (by rw[e];exact True.intro) hs J<|Hz C hd (d.put k U) f
 ·subst m t
  cases(show u=Value.ref b from ry)
  obtain⟨z,hd,xs,d,dd⟩:=vR I.hok e;have B:xs.length<=sizeLine:=by rw[<- gk d];exact z
  have C:(putK kvs k v).length<=sizeLine:=by have:=nj kvs k v;lia
  refine wpAny_setItem_heap (hsz:=B) (gK Z) (sJ I.hok G) dd λh' f hs=>h _ ?_;obtain⟨q,es,ep,j,h2,N,L,_,K⟩:=f;refine qc I (by rw[e];exact True.intro) hs ⟨q,j⟩ ⟨C,hd,_,(d.put k G U).keeps λc ys F=>?_,q,es,ep,j,h2,N,L,K⟩;rw[iG<|Cv F e λz=>nomatch z];exact F
end
section
variable {X:Cx}{pins:bt}{σ:St}{H:Hp}{s:aE}{a:aq}{kvs:List (Key×V)}{A:aC}{E:aa->aE->Prop}
def P4{Q:aa->aE->Prop}(I:Inv X pins σ H s)(e:Rd H a<|.dK kvs)(h:∀t s',Inv X pins σ H s'->Q (.int kvs.length t) s'):wpAny (model X.prog X.w) A (call (.builtin "len") [.ref a]) Q E s:=by
 obtain⟨z,hd,f,d,dd⟩:=C9 I.hok e;refine call_len_dict hd dd (by rw[<- d.length];rw[cY]at z;lia) ?_;rw[<- d.length];exact h _ _<|I.tok _
end
def yP{H:Hp}{s:aE}{a:aq}(I:Inv X pins σ H s)(g:tZ H a y o):s.TypeIs (.ref a) "dict" := by
 rcases g with⟨kvs,k,e,_,_⟩|⟨kvs,k,b,e,_,_,_⟩
 ·obtain⟨_,_,d,_,dd⟩:=C9 I.hok e;exact dd.typeIs
 ·obtain⟨_,_,xs,_,dd⟩:=Ca I.hok e;exact dd.typeIs
def IV{P:ah}{w:af}{H:Hp}(h:au)(hb:sysModules<h.objs.size):jx P w H (h.push { cls:=.type "dict",data:=.dict #[]}) h.objs.size (.dK []):=
 ⟨bL _,c9.mpr<|cj<|bB hb,[],.nil,Heap.DictOf.new h⟩
def Hl{P:ah}{w:af}{H:Hp}(h:au)(hb:sysModules<h.objs.size):jx P w H (h.push { cls:=.type "dict",data:=.dict #[]}) h.objs.size (.dT []):=
 ⟨bL _,c9.mpr<|cj<|bB hb,[],.nil,_,#[],0,bJ _ rfl,⟨rfl,rfl,rfl⟩,rfl,rfl,List.nodup_nil⟩
structure M1 (X:Cx)(o:aF)(m:Str)(apos:Pos)(e:aF)(cpos:Pos):Prop where
 base:attributeBase o m X.env (eval o X.env)=eval o X.env
 few:((backTo cpos<|starEach [e] X.env).all (λx=>!x.1) && (backToKw cpos<|keywordEach [] X.env).all (λx=>x.1.isSome)
  && decide (([e]:List aF).length+([]:List Keyword).length+(if ([]:List Keyword).isEmpty then 0 else 1)<30))=true
 line:(apos.endLine == cpos.line)=true
 trees:backTo cpos (starEach [e] X.env)=[(false,eval e X.env)]
structure M2 (X:Cx)(o:aF)(m:Str)(apos:Pos)(e f:aF)(cpos:Pos):Prop where
 base:attributeBase o m X.env (eval o X.env)=eval o X.env
 few:((backTo cpos<|starEach [e,f] X.env).all (λx=>!x.1) && (backToKw cpos<|keywordEach [] X.env).all (λx=>x.1.isSome)
  && decide (([e,f]:List aF).length+([]:List Keyword).length+(if ([]:List Keyword).isEmpty then 0 else 1)<30))=true
 line:(apos.endLine == cpos.line)=true
 trees:backTo cpos (starEach [e,f] X.env)=[(false,eval e X.env),(false,eval f X.env)]
meta abbrev Ez:=ag×ag
abbrev L3 (x:ag):Int:=reduceHash<|Builtin.Tuple.tupleHashOf<|x.map hashInt
abbrev QO (k:Ez):Int:=reduceHash<|Builtin.Tuple.tupleHashOf [L3 k.1,L3 k.2]
abbrev T_ (x:(Ez×aq×aa)):DictEntry:=⟨QO x.1,.ref x.2.1,x.2.2⟩
abbrev Q9 (a:aq)(xs:List<|Ez×aq×aa)(h:au):Prop:=(a == sysModules)=false/\xs.length<=sizeLine/\∃o es ep,h.get? a=some o/\o.ExactDict/\o.data=.dict es ep/\es.toList=xs.map T_/\(xs.map (·.1)).Nodup
abbrev yu (H:Hp)(b:aq)(k:Ez):Prop:=∃r1 r2,H b=some (.tup [.ref r1,.ref r2])/\H r1=some (.tup<|k.1.map V.int)/\H r2=some (.tup<|k.2.map V.int)
section
variable {X:Cx}
def BC(J:X.A.units+1<cLine):LV X (λx y H Q=>∃a v,x=.ref a/\tZ H a y (some v)/\Q v H):=by
 intro d f pins s σ H x y v u Q I rx ry h hs;obtain⟨a,z,rfl,g,q⟩:=h
 cases rx
 have t:=yP I g;unfold subscriptTail;refine aJ ?_;rw[getitemInPython_of_ne t.not_modules];refine aJ<|wpAny_specialOf t PySem.F.slot_dict_getitem.lookup ?_;have j:wpAny (model X.prog X.w) X.A (subscripted f false (.ref a) u) (λr k=>wpAny (model X.prog X.w) X.A (letTemporaryGo d (.ref a) r >>= λ_=>pure r) (EP X pins σ Q) X.xe k) X.xe s:=by
  rw[hs];exact wpAny_operating<|DJ J I g ry λC B I3 m=>aJ<|wpAny_letTemporaryGo<|aP ⟨z,H,I3,m,q⟩
 first
  | exact aP (aJ j)
  | exact aJ (aP<|aJ j)
  | exact aJ j
def set_dict(J:X.A.units+1<cLine):Ja X (λo i v H Q=>∃a H',o=.ref a/\uQ H a i v H'/\Q H'):=by
 intro pins s σ H o i v m t u Q I d f j h;obtain⟨a,H',rfl,g,q⟩:=h
 cases d
 exact DA J I g f j λz k=>⟨H',k,q⟩
abbrev MU (tk tv:TE):TE:=λσ H Q=>∀p,H p=none->tk σ (upd H p<|.dT []) λx H1=>tv σ H1 λy H2=>H2 p=some (.dT [])/\∃b ks,x=.ref b/\H2 b=some (.tup<|ks.map kV)/\Q (.ref p) (upd H2 p<|.dT [(ks,y)])
def Fe{k v:aF}{tk tv:TE}(Z:X.A.units+1<cLine)(U:PE X k tk)(hv:PE X v tv):PE X (.Dict [some k] [v] pos) (MU tk tv):=by
 intro pins s σ H Q I q;have hn:=I.hok.fresh<|aO s.heap.objs.size;have I1:=I.laid (a:=s.heap.objs.size) (o:=.dT []) (h':=s.heap.push { cls:=.type "dict",data:=.dict #[]}) (t':=s.toks) (λ_ _ q=>aQ _ q) (aO _)<|Hl s.heap I.big;refine wpAny_Dict_any rfl rfl (by simp) (show 1<=15 by decide) ?_;refine pairTrees_cons_walk<|jz (U pins _ σ _ _ I1<|q _ hn) λN B ⟨x,H1,G,rx,F⟩=>jz (hv pins B σ H1 _ G F) λvv M ⟨y,H2,I3,ry,e,b,ks,ex,j,C⟩=>pairTrees_nil_walk ?_;subst ex
 cases rx
 obtain⟨z,hd,xs,d,dd⟩:=vR I3.hok e
 cases d
 unfold storeAll;rw[List.forIn_cons];refine aJ (aJ<|wpAny_dictSet_heap (hsz:=by simp) (show X.A.units<cLine by lia) (sJ I3.hok j) dd λh' f hs=>aP ?_);dsimp only;rw[List.forIn_nil];refine aP ⟨.ref s.heap.objs.size,_,?_,rfl,C⟩;obtain⟨m,es,ep,t,h2,L,K,_,J⟩:=f;refine qc I3 (by rw[e];exact True.intro) hs ⟨m,t⟩ ⟨by show 1<=sizeLine;decide,hd,_,(KT.put (kvs:=[]) .nil ks j ry).keeps λc ys g=>?_,m,es,ep,t,h2,L,K,J⟩;rw[iG<|Cv g e λz=>nomatch z];exact g
abbrev QN:V->List V->Hp->VK->Prop:=λx d H Q=>∃a b ks kvs y,x=.ref a/\d=[.ref b,y]/\H a=some (.dT kvs)/\H b=some (.tup<|ks.map kV)/\Q ((m7 kvs ks).getD y) H
def J4(J:X.A.units+1<cLine):Se X "dict.get" QN:=by
 intro pins s σ H x C v us Q I rx d h;obtain⟨a,b,ks,kvs,y,rfl,rfl,g,j,q⟩:=h
 cases rx
 cases d with
 | @cons _ B _ Jk r1 d=>
  cases d with
  | @cons _ m _ AQ r2 d=>
   cases d
   cases r1
   obtain⟨z,hd,xs,f,dd⟩:=vR I.hok g;refine call_meetsIn f6 dd.typeIs PySem.F.entry_dict_get (PySem.F.args_dict_get_3 _ _ _) (meetsH_dict_get_default (tupleKind<|jD X.prog X.w) a b hd m) ⟨gK J,ks,xs,sJ I.hok j,dd,?_⟩;refine⟨(m7 kvs ks).getD y,H,I.tok _,?_,q⟩;have rl:=f.val ks
   cases e1:m7 kvs ks with
   | none=>
    rw[e1]at rl
    cases e2:(atKey xs ks).map (·.2)with
    | none=>exact r2
    | some k=>rw[e2]at rl;exact rl.elim
   | some t=>
    rw[e1]at rl
    cases e2:(atKey xs ks).map (·.2)with
    | none=>rw[e2]at rl;exact rl.elim
    | some k=>rw[e2]at rl;exact rl
end
section
theorem kt_at{H:Hp}:∀{kvs:List<|List Key×V}{xs:List<|List Key×aq×aa},KT H kvs xs->kvs.length=xs.length/\∀(i:Nat) (p:List Key×V),kvs[i]?=some p->∃y:List Key×aq×aa,xs[i]?=some y/\p.1=y.1/\H y.2.1=some (.tup<|p.1.map kV)/\RelV p.2 y.2.2
 | [],[],_=>⟨rfl,λi p h=>by simp at h⟩
 | [],_::_,r=>nomatch r
 | _::_,[],r=>nomatch r
 | a::kvs,b::xs,.cons z r=>by
  obtain⟨l,q⟩:=kt_at r;refine⟨by simp[l],λi p h=>?_⟩
  cases i with
  | zero=>
   have:a=p:=by simpa using h
   subst this;exact⟨b,rfl,z⟩
  | succ i=>exact q i p<|by simpa using h
end
abbrev C0 (e:aq)(h:au):Prop:=∃o d,h.get? e=some o/\o.data=.fields d/\d[2]?=some .none/\o.dict=none
structure Fly (l:List Env)(g:au)(pn:bt)(H:Hp)(e:aq)(cls:aa)(h:au):Prop where
 ex:∃(B:au) (a0:aa),Heap.FlyingW B l e cls a0 h/\(∀a u,H a=some u->∃o,B.get? a=some o)/\(∀b o,g.get? b=some o->b∉frs l->∃o',B.get? b=some o')/\(∀p∈pn,∃o',B.get? p.1=some o')/\C0 e h
structure Made (X:Cx)(H:Hp)(e:aq)(cls:aa)(g:au)(h:au):Prop where
 ex:∃(g':au) (vs:ba),Heap.MadeExcOf g' h e cls vs/\g'.FunFrames X.base X.stack/\(∀a u,H a=some u->∃o,g'.get? a=some o)/\(∀b o,g.get? b=some o->∃o',g'.get? b=some o')/\(∀p∈X.pn,∃o',g'.get? p.1=some o')
abbrev MG (X:Cx)(H:Hp)(e:aq)(cls:aa)(s':aE):Prop:=Made X H e cls X.s₀.heap s'.heap\/Fly X.stack X.s₀.heap X.pn H e cls s'.heap
section
abbrev EX (X:Cx):XK:=λcls _ H'=>X.ex=[]/\∀pins d s' e,Inv X pins d H' s'->MG X H' e cls s'->X.xe (.ref e) s'
end
abbrev xu:HO:=.ext λ_=>True
structure XO (C:aq)(o:Obj):Prop where
 cls:o.cls=.ref C
 dict:o.dict=none
 ctx:∃vs,o.data=.fields vs/\vs[2]?=some .none
abbrev mroIn (K:aA)(C:aq):Option (ba):=match K.lookup C with
 | some ⟨.type "type",_,.cls cd,sl⟩=>(match cd.mro,sl.toList with
  | .ref C'::bm,[_,_,_,_,some<|.builtin _,_]=>if C'=C/\cd.hasDel=false then some bm else none
  | _,_=>none)
 | _=>none
open PySem.W in
structure XCls (K:aA)(C:aq):Prop where
 ga:findIn K (.ref C) "__getattribute__" = some (some<|.builtin "BaseException.__getattribute__")
 gt:findIn K (.ref C) "__getattr__" = some none
 fc:findObj K C none "__class__" = some (.bind (.builtin "getset_descriptor.__get__")<|.builtin "object.__class__")
 ob:PySem.W.mroIn K C (.type "object")=some true
 bs:subIn K (.ref C) (.type "BaseException")=some true
end L2
namespace L2
open PySem PySem.Spec PyProof.Rows PySem.SeqAt
def EY:bootBuiltins "sum" = some (.builtin "sum"):=by decide +kernel
def M7:bootBuiltins "zip" = some (.type "zip"):=by decide +kernel
section
variable {X:Cx}
def Dp(hc:X.calm=true):jj X (.builtin "sum") (λxs H Q=>∃(p:aq) (ns:ag),xs=[.ref p]/\j5 X.K H p (ns.map V.int)/\Q (.int ns.sum) H):=by
 kt_k;obtain⟨p,ns,rfl,m,q⟩:=h;kst_p
 cases rx
 obtain⟨k,z,j,C⟩:=I.list m;have hi:=intsAre_of z;have f:=j.isList;obtain⟨ys,e⟩:=hi.allInts.items;have d:ns=ys.toList.map (·.1):=by
  rw[<- hi.numsOf,<- nums_intItems,<- e]
 rw[e]at f;refine sum_intListG (I.ok.hd hc) f λh' B t g=>?_;refine⟨.int _,H,I.kept g,⟨t,rfl⟩,?_⟩;rw[preSum_eq,eF<|by simp,<- d];exact q
end
abbrev Sk (K:aA)(j J:aq):It:=
 ⟨λi H=>∃xs ys x y,j5 K H j xs/\j5 K H J ys/\xs[i]?=some x/\ys[i]?=some y,
  λi H v H'=>∃T,H T=none/\v=.ref T/\∀xs ys x y,j5 K H j xs->j5 K H J ys->xs[i]?=some x->ys[i]?=some y->H'=upd H T (.tup [x,y]),
  λi H=>∃xs ys,j5 K H j xs/\j5 K H J ys/\(xs[i]?=none\/ys[i]?=none)⟩
def F8{P:ah}{w:af}{K:aA}{TI TO:aq}(D:ZipApart z TI TO i1 i2 l1 l2) :
  Turn P w K (.Tuple elts x1 tpos) (Sk K l1 l2) [z,TI,TO,i1,i2] z (λi h=>IsZip h z TI TO .none/\IsPair h TI (.ref i1) (.ref i2)/\(∃a b,IsPair h TO a b)/\h.IsListIter i1 l1 i/\h.IsListIter i2 l2 i) where
 mem:=by simp
 obj:=λi h st b hb=>by
  obtain⟨s1,U,⟨a,b',s3⟩,⟨o4,e4,c4,d4⟩,⟨o5,e5,c5,d5⟩⟩:=st;have F:b=z\/b=TI\/b=TO\/b=i1\/b=i2:=by simpa using hb
  rcases F with rfl|rfl|rfl|rfl|rfl
  ·exact⟨_,s1,λv z=>by cases z⟩
  ·exact⟨_,U,λv z=>by cases z⟩
  ·exact⟨_,s3,λv z=>by cases z⟩
  ·exact⟨o4,e4,λv z=>by rw[d4]at z;cases z⟩
  ·exact⟨o5,e5,λv z=>by rw[d5]at z;cases z⟩
 keep:=λi h h' st k=>by
  obtain⟨s1,U,⟨a,b',s3⟩,s4,s5⟩:=st;exact⟨k z (by simp) _ s1,k TI (by simp) _ U,⟨a,b',k TO (by simp) _ s3⟩,s4.at λo C=>k i1 (by simp) o C,s5.at λo C=>k i2 (by simp) o C⟩
 item:=by
  room;subst hP hw hK;obtain⟨s1,U,⟨a,b',s3⟩,s4,s5⟩:=st;obtain⟨xs,ys,x,y,W,V,hx,hy⟩:=hg;obtain⟨its1,rv1,p1,hz1⟩:=I.list W;obtain⟨Z,rv2,p2,hz2⟩:=I.list V;obtain⟨u1,hu1,ru1⟩:=rv1.get hx;obtain⟨u2,hu2,ru2⟩:=rv2.get hy;refine wpAny_pyNext_zip_item D s1 U s3 s4 s5 p1.isList p2.isList (x:=u1) (y:=u2) (by simpa using hu1) (by simpa using hu2) λh' hz' hTO' h1' h2' hT hsz hk=>?_;refine⟨_,rfl,wpAny_letOwnedTupleGo_zip hz' λh2 he2 O=>?_⟩;have fT:H s.heap.objs.size=none:=I.hok.fresh<|aO _;have lz:z<s.heap.objs.size:=aZ s1;have lTI:TI<s.heap.objs.size:=aZ U;have lTO:TO<s.heap.objs.size:=aZ s3;have li1:i1<s.heap.objs.size:=by obtain⟨o,C,_⟩:=s4;exact aZ C
  have li2:i2<s.heap.objs.size:=by obtain⟨o,C,_⟩:=s5;exact aZ C
  have k2:∀b o,b≠z->b≠TO->b≠i1->b≠i2->s.heap.get? b=some o->h2.get? b=some o:=λb o G N J L q=>O.extBut b o G<|hk b o G N J L q;have hT2:IsPair h2 s.heap.objs.size u1 u2:=O.extBut _ _ (ir lz) hT;have fz:=hf z (by simp);have fTI:=hf TI (by simp);have d:=hf TO (by simp);have g:=hf i1 (by simp);have f:=hf i2 (by simp);have nT:∀b o,s.heap.get? b=some o->b≠s.heap.objs.size:=λb o q=>bB<|aZ q;have t:∀c v,H c=some v->c≠z/\c≠TO/\c≠i1/\c≠i2:=λc v q=>⟨(λw=>by rw[w,fz.1]at q;cases q),(λw=>by rw[w,d.1]at q;cases q),(λw=>by rw[w,g.1]at q;cases q),(λw=>by rw[w,f.1]at q;cases q)⟩;have B:∀b,b∉[z,TO,i1,i2]->b≠z/\b≠TO/\b≠i1/\b≠i2:=λb hb=>by simpa using hb
  have I2:Inv X pins σ (upd H s.heap.objs.size<|.tup [x,y]) { s with heap:=h2,toks:=s.toks }:=by
   refine I.step (g':=s.gens) (d':=s.drawn) (ch:=[z,TO,i1,i2]) (λb hb=>?_) (λb o _ _ j q _=>?_) (λb o _ _ j q _=>?_) (λb o j q n=>?_) (λb o j q=>?_) (λb ys q=>?_) (λb o u' q=>?_) (λb ps q=>?_) (λm hm=>?_) (λb u' q=>?_) I.bare
   ·have F:b=z\/b=TO\/b=i1\/b=i2:=by simpa using hb
    rcases F with rfl|rfl|rfl|rfl
    ·exact⟨fz.2.2.2.1,fz.2.1,fz.2.2.2.2.1,fz.2.2.2.2.2⟩
    ·exact⟨d.2.2.2.1,d.2.1,d.2.2.2.2.1,d.2.2.2.2.2⟩
    ·exact⟨g.2.2.2.1,g.2.1,g.2.2.2.2.1,g.2.2.2.2.2⟩
    ·exact⟨f.2.2.2.1,f.2.1,f.2.2.2.2.1,f.2.2.2.2.2⟩
   ·obtain⟨G,N,J,L⟩:=B b j;exact k2 b o G N J L q
   ·obtain⟨G,N,J,L⟩:=B b j;exact⟨o.slots,k2 b o G N J L q⟩
   ·rw[iG<|nT b o q];exact n
   ·obtain⟨G,N,J,L⟩:=B b j;exact⟨o,k2 b o G N J L q⟩
   ·rw[iG<|iQ q fT];exact q
   ·rw[iG<|iQ q fT];exact q
   ·exact⟨#[],by rw[iG<|iQ q fT,q];simp⟩
   ·obtain⟨o,es,ep,C,r⟩:=hm;exact⟨o,es,ep,k2 _ o (cj fz.2.1) (cj d.2.1) (cj g.2.1) (cj f.2.1) C,r⟩
   ·by_cases hb:b=s.heap.objs.size
    ·subst hb;rw[i7]at q
     cases q
     exact⟨by show 2<=sizeLine;decide,[u1,u2],.cons ru1<|.cons ru2 .nil,⟨_,hT2,rfl,rfl,0,rfl⟩⟩
    ·rw[iG hb]at q;refine(I.hok b u' q).stay (λc v hc M=>?_) (λc M=>?_) λc ys M=>?_
     ·have Y:c≠z/\c≠TO/\c≠i1/\c≠i2:=by
       rcases hc with w|w
       ·rw[w];exact t b u' q
       ·exact t c _ w
      exact k2 c v Y.1 Y.2.1 Y.2.2.1 Y.2.2.2 M
     ·rw[iG<|iQ M fT];exact M
     ·rw[iG<|iQ M fT];exact M
  refine⟨.ref s.heap.objs.size,_,I2,rfl,⟨s.heap.objs.size,fT,rfl,λxs' ys' x' y' hy1 hy2 e1 e2=>?_⟩,⟨he2,?_,⟨u1,u2,?_⟩,?_,?_⟩,λb hb=>?_⟩
  ·rw[I.rC hy1 W,hx]at e1;rw[I.rC hy2 V,hy]at e2
   cases e1;cases e2;rfl
  ·exact k2 TI _ D.TIz D.TITO D.TIi1 D.TIi2 U
  ·exact O.extBut TO _ D.TOz hTO'
  ·exact h1'.at λo C=>O.extBut i1 o D.i1z C
  ·exact h2'.at λo C=>O.extBut i2 o D.i2z C
  ·have F:b=z\/b=TI\/b=TO\/b=i1\/b=i2:=by simpa using hb
   rcases F with rfl|rfl|rfl|rfl|rfl
   ·rw[iG<|bB lz];exact fz.1
   ·rw[iG<|bB lTI];exact fTI.1
   ·rw[iG<|bB lTO];exact d.1
   ·rw[iG<|bB li1];exact g.1
   ·rw[iG<|bB li2];exact f.1
 done:=by
  room;subst hP hw hK;obtain⟨s1,U,⟨a,b',s3⟩,s4,s5⟩:=st;obtain⟨xs,ys,W,V,hend⟩:=hg;obtain⟨its1,rv1,p1,hz1⟩:=I.list W;obtain⟨Z,rv2,p2,hz2⟩:=I.list V;have hl1:=rv1.length;have hl2:=rv2.length;have fz:=hf z (by simp);have d:=hf TO (by simp);have g:=hf i1 (by simp);have f:=hf i2 (by simp);have hend':its1.toArray[i]?=none\/Z.toArray[i]?=none:=by
   rcases hend with q|q
   ·left;rw[dD]at q;simp;lia
   ·right;rw[dD]at q;simp;lia
  refine wpAny_pyNext_zip_end (I.ok.hd hc) D s1 U s3 s4 s5 p1.isList p2.isList hend' λh' hk=>⟨rfl,?_⟩;have B:∀b,b∉[z,TO,i1,i2]->b≠z/\b≠TO/\b≠i1/\b≠i2:=λb hb=>by simpa using hb
  have t:∀c v,H c=some v->c≠z/\c≠TO/\c≠i1/\c≠i2:=λc v q=>⟨(λw=>by rw[w,fz.1]at q;cases q),(λw=>by rw[w,d.1]at q;cases q),(λw=>by rw[w,g.1]at q;cases q),(λw=>by rw[w,f.1]at q;cases q)⟩;refine I.step (g':=s.gens) (d':=s.drawn) (t':=s.toks) (ch:=[z,TO,i1,i2]) (λb hb=>?_) (λb o _ _ j q _=>?_) (λb o _ _ j q _=>?_) (λb o j q n=>n) (λb o j q=>?_) (λb ys q=>q) (λb o u' q=>q) (λb ps q=>⟨#[],by rw[q];simp⟩) (λm hm=>?_) (λb u' q=>?_) I.bare
  ·have F:b=z\/b=TO\/b=i1\/b=i2:=by simpa using hb
   rcases F with rfl|rfl|rfl|rfl
   ·exact⟨fz.2.2.2.1,fz.2.1,fz.2.2.2.2.1,fz.2.2.2.2.2⟩
   ·exact⟨d.2.2.2.1,d.2.1,d.2.2.2.2.1,d.2.2.2.2.2⟩
   ·exact⟨g.2.2.2.1,g.2.1,g.2.2.2.2.1,g.2.2.2.2.2⟩
   ·exact⟨f.2.2.2.1,f.2.1,f.2.2.2.2.1,f.2.2.2.2.2⟩
  ·obtain⟨G,N,J,L⟩:=B b j;exact hk b o G N J L q
  ·obtain⟨G,N,J,L⟩:=B b j;exact⟨o.slots,hk b o G N J L q⟩
  ·obtain⟨G,N,J,L⟩:=B b j;exact⟨o,hk b o G N J L q⟩
  ·obtain⟨o,es,ep,C,r⟩:=hm;exact⟨o,es,ep,hk _ o (cj fz.2.1) (cj d.2.1) (cj g.2.1) (cj f.2.1) C,r⟩
  ·refine(I.hok b u' q).stay (λc v hc M=>?_) (λc M=>M) λc ys M=>M;have Y:c≠z/\c≠TO/\c≠i1/\c≠i2:=by
    rcases hc with w|w
    ·rw[w];exact t b u' q
    ·exact t c _ w
   exact hk c v Y.1 Y.2.1 Y.2.2.1 Y.2.2.2 M
 self:=λ_ _ _ _ _ st h=>wpAny_pyIter_zip st.1 h
section
variable {X:Cx}
abbrev Rg (K:aA)(ta:TA):TI:=λσ H R=>ta σ H λd H1=>∃a b xs ys,d=[.ref a,.ref b]/\j5 K H1 a xs/\j5 K H1 b ys/\R (Sk K a b) H1
def Od{a b:aF}{ta:TA}{p:Pos}(hg:Gl X "zip")(hm:X.mg "zip" = none)(ha:PA X [a,b] ta)(hs:starEach [a,b] X.env=(false,eval a X.env)::starEach [b] X.env<|>ε)(hpl:((backTo pos<|starEach [b] X.env).any (·.1)=false)<|>ε):PI X (.Tuple elts x1 tpos) (.Call (.Name "zip" p) [a,b] [] pos) (Rg X.K ta):=by
 intro pins s σ H R I h;refine Call_<|pQ I hg hm M7<|cJ (jz (ha pos pins s σ H _ I h) λus d ⟨vs,H1,I1,r1,Y⟩=>?_) hs hpl;obtain⟨t1,t2,xs,ys,e,N,B,q⟩:=Y;subst e;obtain⟨u1,f,rfl,z,r2⟩:∃u f,us=u::f/\RelV (.ref t1) u/\Vals [.ref t2] f:=by
  cases r1 with|cons h t=>exact⟨_,_,rfl,h,t⟩
 obtain⟨u2,rfl,m⟩:=vals1 r2
 cases z
 cases m
 obtain⟨P,rv1,p1,hz1⟩:=I1.list N;obtain⟨U,rv2,p2,W⟩:=I1.list B;refine call_zip_2 p1.isList p2.isList λh' O F C G L Z V=>?_;have I2:Inv X pins σ H1 { d with heap:=h' }:=I1.kept (t':=d.toks) V;have g:t1<d.heap.objs.size:=by obtain⟨o,j,_⟩:=p1.isList;exact aZ j
 have J:t2<d.heap.objs.size:=by obtain⟨o,j,_⟩:=p2.isList;exact aZ j
 have fr:∀k,H1 (d.heap.objs.size+k)=none:=λk=>I1.hok.fresh<|Nat.le_add_right _ k;refine wpAny_pyIter_zip O ⟨_,[d.heap.objs.size+4,d.heap.objs.size+2,d.heap.objs.size+3,d.heap.objs.size,d.heap.objs.size+1],_,_,H1,rfl,I2,F8<|zipApart_new g J,⟨O,F,⟨_,_,C⟩,G,L⟩,λb hb=>?_,q⟩;have M:∃k,b=d.heap.objs.size+k:=by
  dsimp[a_,List.not_mem_nil,or_false]at hb
  rcases hb with rfl|rfl|rfl|rfl|rfl
  ·exact⟨4,rfl⟩
  ·exact⟨2,rfl⟩
  ·exact⟨3,rfl⟩
  ·exact⟨0,rfl⟩
  ·exact⟨1,rfl⟩
 obtain⟨k,rfl⟩:=M;exact I1.vq (Nat.le_add_right _ k)<|fr k
end
end L2
namespace L2
open PySem PySem.Spec PyProof.Rows
abbrev NN (K:aA)(a:aq):It:=
 ⟨λi H=>∃xs x,j5 K H a xs/\xs[i]?=some x,λi H x H'=>∃T,H T=none/\x=.ref T/\∀xs y,j5 K H a xs->xs[i]?=some y->H'=upd H T (.tup [.int i,y]),λi H=>∃xs,j5 K H a xs/\xs.length=i⟩
def zZ{P:ah}{w:af}{K:aA}(a e it:aq)(hei:e≠it):Turn P w K (.Tuple elts x1 tpos) (NN K a) [e,it] e (λi h=>(∃old,IsEnum h e it i old)/\h.IsListIter it a i) where
 mem:=by simp
 obj:=λi h st b hb=>by
  obtain⟨⟨old,f⟩,g⟩:=st;have J:b=e\/b=it:=by simpa using hb
  rcases J with rfl|rfl
  ·exact⟨_,f,λv z=>by cases z⟩
  ·obtain⟨o,e,c,d⟩:=g;exact⟨o,e,λv z=>by rw[d]at z;cases z⟩
 keep:=λi h h' st k=>by
  obtain⟨⟨old,f⟩,g⟩:=st;exact⟨⟨old,k e (by simp) _ f⟩,g.at λo B=>k it (by simp) o B⟩
 item:=by
  room;subst hP hw hK;obtain⟨⟨old,f⟩,g⟩:=st;obtain⟨xs,x,hq,hx⟩:=hg;obtain⟨C,rv,p,hz⟩:=I.list hq;obtain⟨u,hu,ru⟩:=rv.get hx;have L:a≠it:=by
   obtain⟨o,B,F,_⟩:=p.isList;obtain⟨o2,O,G,_⟩:=g;intro z;rw[z,O]at B
   cases B
   rw[F]at G;exact absurd (Value.type.inj G) ⋯
  have hea:e≠a:=by
   obtain⟨o,B,F,_⟩:=p.isList;intro z;rw[<- z,f]at B
   cases B
   exact absurd (Value.type.inj F) ⋯
  have hlt:i<C.toArray.size:=by
   rw[aX];exact(aL.mp hu).1
  refine wpAny_pyNext_enum_itemD (Draws.list (A:=X.A.in1) (I.ok.hd hc) it a L C.toArray) f ⟨g,p.isList⟩ hlt hei (by simp[hei,hea]) λx' h' tk hP Y hst hT hsz hk=>?_;have ex:x'=u:=by
   have:C.toArray[i]?=some u:=by simpa using hu
   rw[this]at hP;exact(aW hP).symm
  subst ex;refine⟨_,rfl,wpAny_letOwnedTupleGo_enum Y λh2 he2 N=>?_⟩;have V:H s.heap.objs.size=none:=I.hok.fresh<|aO _;have W:e<s.heap.objs.size:=aZ f;have hil:it<s.heap.objs.size:=by obtain⟨o,B,_⟩:=g;exact aZ B
  have k2:∀b o,b≠e->b≠it->s.heap.get? b=some o->h2.get? b=some o:=λb o h1 h3 q=>N.extBut b o h1<|hk b o h1 h3 q;have hT2:h2.get? s.heap.objs.size=some { cls:=.type "tuple",data:=.seq #[.int i tk,x']}:=N.extBut _ _ (ir W) hT;obtain⟨e0,e1,e2,e3,e4,e5⟩:=hf e (by simp);obtain⟨i0,i1,i2,i3,i4,i5⟩:=hf it (by simp);have nT:∀b o,s.heap.get? b=some o->b≠s.heap.objs.size:=λb o q=>bB<|aZ q;have j:∀c v,H c=some v->c≠e/\c≠it:=λc v q=>⟨(λz=>by rw[z,e0]at q;cases q),(λz=>by rw[z,i0]at q;cases q)⟩;have I2:Inv X pins σ (upd H s.heap.objs.size<|.tup [.int i,x]) { s with heap:=h2,toks:=tk+1 }:=by
   refine I.step (g':=s.gens) (d':=s.drawn) (ch:=[e,it]) (λb hb=>?_) (λb o _ _ t q _=>?_) (λb o _ _ t q _=>?_) (λb o t q n=>?_) (λb o t q=>?_) (λb ys q=>?_) (λb o Z q=>?_) (λb ps q=>?_) (λm hm=>?_) (λb Z q=>?_) I.bare
   ·have J:b=e\/b=it:=by simpa using hb
    rcases J with rfl|rfl
    ·exact⟨e3,e1,e4,e5⟩
    ·exact⟨i3,i1,i4,i5⟩
   ·exact k2 b o (λz=>t<|by simp[z]) (λz=>t<|by simp[z]) q
   ·exact⟨o.slots,k2 b o (λz=>t<|by simp[z]) (λz=>t<|by simp[z]) q⟩
   ·rw[iG<|nT b o q];exact n
   ·exact⟨o,k2 b o (λz=>t<|by simp[z]) (λz=>t<|by simp[z]) q⟩
   ·rw[iG<|iQ q V];exact q
   ·rw[iG<|iQ q V];exact q
   ·exact⟨#[],by rw[iG<|iQ q V,q];simp⟩
   ·obtain⟨o,es,ep,B,r⟩:=hm;exact⟨o,es,ep,k2 _ o (cj e1) (cj i1) B,r⟩
   ·by_cases z:b=s.heap.objs.size
    ·subst z;rw[i7]at q
     cases q
     exact⟨by show 2<=sizeLine;decide,[.int i tk,x'],.cons ⟨tk,rfl⟩<|.cons ru .nil,⟨_,hT2,rfl,rfl,0,rfl⟩⟩
    ·rw[iG z]at q;refine(I.hok b Z q).stay (λc v hc U=>k2 c v ?_ ?_ U) (λc U=>?_) λc ys U=>?_
     ·rcases hc with z|z
      ·rw[z];exact(j b Z q).1
      ·exact(j c _ z).1
     ·rcases hc with z|z
      ·rw[z];exact(j b Z q).2
      ·exact(j c _ z).2
     ·rw[iG<|iQ U V];exact U
     ·rw[iG<|iQ U V];exact U
  refine⟨.ref s.heap.objs.size,_,I2,rfl,⟨s.heap.objs.size,V,rfl,λys y hy M=>?_⟩,⟨⟨x',by simpa using he2⟩,?_⟩,λb hb=>?_⟩
  ·rw[I.rC hy hq]at M;rw[hx]at M
   cases M
   rfl
  ·exact hst.1.at λo B=>N.extBut it o (cj hei) B
  ·have J:b=e\/b=it:=by simpa using hb
   rcases J with rfl|rfl
   ·rw[iG<|bB W];exact e0
   ·rw[iG<|bB hil];exact i0
 done:=by
  room;subst hP hw hK;obtain⟨⟨old,f⟩,g⟩:=st;obtain⟨xs,hq,hx⟩:=hg;obtain⟨C,rv,p,hz⟩:=I.list hq;obtain⟨i0,i1,i2,i3,i4,i5⟩:=hf it (by simp);have L:a≠it:=by
   obtain⟨o,B,F,_⟩:=p.isList;obtain⟨o2,O,G,_⟩:=g;intro z;rw[z,O]at B
   cases B
   rw[F]at G;exact absurd (Value.type.inj G) ⋯
  have hl:=rv.length;have ei:C.toArray.size=i:=by rw[aX,<- hl,hx]
  exact wpAny_pyNext_enum_endD (Draws.list (A:=X.A.in1) (I.ok.hd hc) it a L C.toArray) f ⟨by rw[ei];exact g,p.isList⟩ λh' eb=>⟨rfl,I.turned (t':=s.toks) (λb o hb q=>eb b o hb q) i0 i1 i3 i4 i5⟩
 self:=λ_ _ _ _ _ st h=>let⟨⟨_,f⟩,_⟩:=st;wpAny_pyIter_enum f h
section
variable {X:Cx}
abbrev M5 (K:aA)(ta:TA):TI:=λσ H R=>ta σ H λd H1=>∃a xs,d=[.ref a]/\j5 K H1 a xs/\R (NN K a) H1
def E6{a:aF}{ta:TA}{p:Pos}(hg:Gl X "enumerate")(hm:X.mg "enumerate" = none)(M:PA X [a] ta)(hs:starEach [a] X.env=[(false,eval a X.env)]<|>ε):PI X (.Tuple elts x1 tpos) (.Call (.Name "enumerate" p) [a] [] pos) (M5 X.K ta):=by
 intro pins s σ H R I h;refine Call_<|pQ I hg hm wJ<|cJ (jz (M pos pins s σ H _ I h) λus d ⟨J,H1,I1,r1,B⟩=>?_) hs rfl;obtain⟨t,xs,e,F,q⟩:=B;subst e;obtain⟨u,rfl,rx⟩:=vals1 r1
 cases rx
 obtain⟨m,L,pt,G⟩:=I1.list F;refine call_enumerate_list pt.isList λh' k g C z=>?_;have I3:Inv X pins σ H1 { d with heap:=h' }:=I1.kept (t':=d.toks) z;have f:d.heap.objs.size+1≠d.heap.objs.size:=()
 refine wpAny_pyIter_enum k ⟨_,[_,d.heap.objs.size],_,_,H1,rfl,I3,zZ t _ d.heap.objs.size f,⟨⟨.none,k⟩,g⟩,λb hb=>?_,q⟩;have j:b=d.heap.objs.size+1\/b=d.heap.objs.size:=by simpa using hb
 rcases j with rfl|rfl
 ·exact I1.vq (le_succ _) (I1.hok.fresh<|le_succ _)
 ·cb_eq
end
def FN{X:Cx}{i:Nat}{U:Pos}{iter:aF}{N:ar}{wi:TI}{g:TG}{tc:TT}{te:TE}
  (hN:X.N.Nodup) (Z:X.N[i]?=some y) (hx:Loc X.env.scope y) (hc:X.calm=true) (S:CpScope X scope N cap) (hi:PI X tg iter wi)
  (hg:∀C s₀ H₀ ex,PG (iZ X scope N C s₀ H₀ ex) tg g) (ht:∀C s₀ H₀ ex,zO (iZ X scope N C s₀ H₀ ex) ifs tc) (he:∀C s₀ H₀ ex,PE (iZ X scope N C s₀ H₀ ex) elt te)
  (hsw:swapsWith (.ListComp elt [⟨tg,iter,ifs,0⟩] scope pos) (some<|.Name y py) U.line X.env=pure true)
  (hf:X.fn y=true\/X.env.scope.names.lookup y=some .local) (hs:(∀x,foldedSetIterable iter X.env x=pure x)<|>ζ) :
  PS X (.Assign [.Name y py] (.ListComp elt [⟨tg,iter,ifs,0⟩] scope pos) U) (F_ (Qi cap wi g tc te)<|CF i):=by
 ksr_p;rw[exec_Assign_Name_used _ _ _ _ hsw];refine aJ (bY<|aJ ?_)
 skip
 refine aJ<|dm (B5 (ok:=λY=>Y.calm=true) (Q':=λ_ s'=>SP X pins D .next s') S (λ_ _ _ _ _=>hc) (PI.g hi) hg ht he hs pins s σ H _ I h ?_) (λ_ s' M=>aP<|aP M) λ_ _ e=>e;intro B C J H5 m hn j inv q v;have O:=inv B.heap<|Heap.SameBut.refl _ _;obtain⟨G,f⟩:∃o,B.heap.get? C=some o/\∀v,o.data≠.cell v:=by
  obtain⟨o,es,ep,e,d,_⟩:=hn;exact⟨o,e,λv z=>by rw[d]at z;cases z⟩
 have L:=O.pinned (fp:=[C]) (λb hb=>by rw[bf]at hb;rw[hb];exact j) (λb hb=>by rw[bf]at hb;rw[hb];exact⟨G,f⟩)
 skip
 refine jz (xJ hN Z hx hf _ B σ H5 (.ref J) (.ref J) _ L rfl q) λ_ s7 h9=>?_;obtain⟨t,H7,I7,K⟩:=h9;have hp:=I7.pin (C,G)<|aT _<|aT _<|jk (bf.mpr rfl) f.1;refine⟨m,hn.at' λo e=>by rw[f.1]at e;cases e;exact hp.1,λh' k=>?_⟩;have F:∀c v,H7 c=some v->c≠C:=λc v e z=>by rw[z,hp.2.1]at e;cases e
 refine⟨t,H7,?_,K⟩;refine I7.ku.yZ (ch:=[C]) rfl ⟨λb o e n hb hx=>?_,λb o e n hb hx=>?_,λb o e n hx=>n,λb o e hx=>?_,λ_ _ e=>e,λ_ _ _ e=>e,λ_ _ e=>⟨#[],by rw[Array.append_empty];exact e⟩⟩ ?_ I7.bare ?_
 ·exact k.extBut b o (by simpa using hx) e
 ·exact⟨o.slots,k.extBut b o (by simpa using hx) e⟩
 ·exact⟨o,k.extBut b o (by simpa using hx) e⟩
 ·intro b o e;refine(I7.hok b o e).stay (λc v hc q=>k.extBut c v ?_ q) (λ_ q=>q) λ_ _ q=>q
  rcases hc with z|z
  ·rw[z];exact F b o e
  ·exact F c _ z
 ·intro b hb;rw[bf]at hb;rw[hb];exact⟨j.2.2.2.1,j.2.1,j.2.2.2.2.1,j.2.2.2.2.2⟩
abbrev QX (lo:Int)(n:Nat):It:=⟨λi _=>i<n,λi H x H'=>H'=H/\x=.int (lo-i),λi _=>n<=i⟩
def DN{P:ah}{w:af}{K:aA}(it:aq)(lo:Int)(n:Nat):Turn P w K tg (QX lo n) [it] it (λi h=>IsRangeIter h it (lo+(i:Nat) * (-1)) ((n:Int)-(i:Nat))<|-1) where
 mem:=by simp
 obj:=λi h st b hb=>by
  have e:b=it:=by simpa using hb
  subst e;exact⟨_,st,λv z=>by
   have g:Data.fields _=Data.cell v:=z
   cases g⟩
 keep:=λi h h' st k=>k it (by simp) _ st
 item:=by
  room;subst hP hw hK;fin2;have W:=Walks.range (prog:=X.prog) (w:=X.w) (I.ok.hd hc) it lo (-1) n;refine W.item i s _ _ hg st λv h' f hv d j=>?_;obtain⟨t,rfl⟩:=hv;have I1:Inv X pins σ H { s with heap:=h',toks:=f }:=I.turned (λb o hb e=>j b o (by simpa using hb) e) f0 f1 f3 f4 f5;refine⟨_,rfl,wD (s:={ s with heap:=h',toks:=f }) (n := "range_iterator") d rfl rfl ⋯ ⟨.int<|lo-i,H,I1,⟨t,?_⟩,⟨rfl,rfl⟩,d,λb hb=>(hf b hb).1⟩⟩;rw[show lo+(i:Int) * (-1)=lo-i by lia]
 done:=by
  room;subst hP hw hK;fin2;exact wpAny_pyNext_range_end (I.ok.hd hc) st (by have:n<=i:=hg;lia) λh' m=>⟨rfl,I.turned (t':=s.toks) (λb o hb e=>m b o hb e) f0 f1 f3 f4 f5⟩
 self:=λ_ _ _ _ _ st h=>wpAny_pyIter_rangeiter st h
def wc(a b:Int):Builtin.Range.rangeSize a b (-1)=if a>b then a-b else 0:=by
 unfold Builtin.Range.rangeSize;dsimp[show ¬((-1:Int)>0)by decide,c_,Int.neg_neg,ediv_one];split<;>lia
def small_down{a b:Int}(L:-(2 ^ 62)<=a)(j:a<2 ^ 62)(hb:-(2 ^ 62)<=b)(J:b<2 ^ 62):Builtin.Range.small a b (-1)=true:=by
 unfold Builtin.Range.small;rw[wc];dsimp[Builtin.Range.rangeFitsLong,bZ,c8,fR,iu,show ¬((-1:Int)>0)by decide,c_];split<;>lia
section
variable {X:Cx}{tg:aF}
def Jy{H:Hp}{s:aE}{R:It->Hp->Prop}{E:aa->aE->Prop}{lo hi:Int}{t v:Tok}{tk:Nat}(I:Inv X pins σ H s)(h1:-(2 ^ 62)<=lo)(h2:lo<2 ^ 62)(j:-(2 ^ 62)<=hi)(J:hi<2 ^ 62)
  (q:R (QX lo (lo-hi).toNat) H):wpAny (model X.prog X.w) X.A (pyIter<|.ref s.heap.objs.size) (Si X pins σ tg R) E { s with heap:=s.heap.push { cls:=.type "range",data:=.fields #[.int lo t,.int hi u,.int (-1) v]},toks:=tk }:=by
 refine wpAny_pyIter_range (IsRange.new ..) (small_down h1 h2 j J) ?_;have I1:Inv X pins σ H { s with heap:=s.heap.push { cls:=.type "range",data:=.fields #[.int lo t,.int hi u,.int (-1) v]},toks:=tk }:=I.kept λb o e=>aQ _ e;refine⟨(s.heap.push { cls:=.type "range",data:=.fields #[.int lo t,.int hi u,.int (-1) v]}).objs.size,[(s.heap.push { cls:=.type "range",data:=.fields #[.int lo t,.int hi u,.int (-1) v]}).objs.size],_,_,H,rfl,
  I1.kept (t':=tk) λb o e=>aQ _ e,DN _ lo (lo-hi).toNat,?_,λb hb=>?_,q⟩
 ·have e1:lo+((0:Nat):Int) * (-1)=lo:=by simp
  have e2:(((lo-hi).toNat:Nat):Int)-((0:Nat):Int)=Builtin.Range.rangeSize lo hi (-1):=by rw[wc];split<;>lia
  skip
  rw[e1,e2];exact bJ _ rfl
 ·have e:b=(s.heap.push { cls:=.type "range",data:=.fields #[.int lo t,.int hi u,.int (-1) v]}).objs.size:=by simpa using hb
  subst e;cb_eq
abbrev O7 (ta:TA):TI:=λσ H R=>ta σ H λd H1=>∃i j:Int,d=[.int i,.int j,.int<|-1]/\(-(2 ^ 62)<=i/\i<2 ^ 62/\-(2 ^ 62)<=j/\j<2 ^ 62)/\R (QX i (i-j).toNat) H1
def JE{a:aF}{ta:TA}{p:Pos}(hg:Gl X "range")(hm:X.mg "range" = none)(M:PA X [a,b,c] ta)(hs:starEach [a,b,c] X.env=[(false,eval a X.env),(false,eval b X.env),(false,eval c X.env)]<|>ε)(L:starEach [b,c] X.env=[(false,eval b X.env),(false,eval c X.env)]<|>ε) :
  PI X tg (.Call (.Name "range" p) [a,b,c] [] pos) (O7 ta):=by
 intro pins s σ H R I h;refine Call_ (pQ I hg hm boot_range<|cJ (jz (M pos pins s σ H _ I h) λus G ⟨J,H1,I1,r1,f⟩=>?_) (by rw[hs,L])<|by rw[L];rfl);obtain⟨i,j,e,⟨f,z,k,C⟩,q⟩:=f;subst e
 cases r1 with
 | cons r d=>
  cases d with
  | cons m d=>
   cases d with
   | cons g d=>
    cases d
    obtain⟨t,rfl⟩:=r;obtain⟨F,rfl⟩:=m;obtain⟨B,rfl⟩:=g;exact call_range_3 ⋯ (Jy I1 f z k C q)
end
end L2
namespace Sx
open PySem PyProof.Rows
structure Ord where
 lt:Nat->Nat->Bool
 irr:∀i,lt i i=false
 tr:∀i j k,lt i j=true->lt j k=true->lt i k=true
 neg:∀i j k,lt i k=true->lt i j=true\/lt j k=true
abbrev P (o:Ord)(i j:Nat):Prop:=o.lt i j=true\/(o.lt j i=false/\i<j)
abbrev So (o:Ord)(g:Nat->Nat)(a b:Nat):Prop:=∀i j,a<=i->i<j->j<b->P o (g i) (g j)
abbrev Cl (g:Nat->Nat)(a b:Nat):Prop:=∀i,a<=i->i<b->a<=g i/\g i<b
section
variable {o:Ord}{N:Nat}{f:Nat->Keyed}{kd:SortKind}{g:Nat->Nat}{p:Array (Nat×Nat×Nat)}{st:SortSt}
end
section
variable {o:Ord}{g g0:Nat->Nat}
end
abbrev Bk:Bool->Keyed->Array Keyed->Nat->Nat->Nat->StateT SortSt Sem (bo):=sortPriv% PySem.Builtin.gallop
abbrev P6:Nat->StateT SortSt Sem Unit:=sortPriv% PySem.Builtin.setMinGallop
section
variable {o:Ord}{N:Nat}{f:Nat->Keyed}{A B hs:am}{ia ib:Nat}
abbrev fa (f:Nat->Keyed)(l:am):Array Keyed:=(l.map f).toArray
abbrev Res (o:Ord)(f:Nat->Keyed)(A B:am)(out:Array Keyed):Prop:=∃hs:am,out=fa f hs/\hs.length=A.length+B.length/\hs.Pairwise (P o)/\∀x∈hs,x∈A\/x∈B
end
structure Sm (st st':SortSt):Prop where
 a:arrOf st'=arrOf st
 k:kindOf st'=kindOf st
 p:pendingOf st'=pendingOf st
 f:failedOf st'=failedOf st
meta abbrev G:=Option (Array Keyed)×Array Keyed×Nat×Nat×Nat×Nat×Nat
abbrev T3 (a b out:Array Keyed)(ia ib mg j J:Nat):StateT SortSt Sem (ForInStep G):=do
 let x <- elem' a ia
 if (ia+1+1 == a.size)=true then pure (ForInStep.done (some<|out.push x++b.extract ib b.size++a.extract (ia+1) a.size,out.push x,ia+1,ib,mg,j,J))
 else if (decide (j<7) && decide (J<7))=true then pure (ForInStep.done (none,out.push x,ia+1,ib,mg,j,J))
 else pure (ForInStep.yield (none,out.push x,ia+1,ib,mg,j,J))
abbrev T2 (a b out:Array Keyed)(ia ib mg j J:Nat):StateT SortSt Sem (ForInStep G):=do
 let x <- elem' b ib
 if (ib+1 == b.size)=true then pure (ForInStep.done (some<|out.push x++a.extract ia a.size++b.extract (ib+1) b.size,out.push x,ia,ib+1,mg,j,J))
 else
  let y <- elem' a ia
  let r <- Bk true y b (ib+1) (b.size-(ib+1)) 0
  match r with
  | some k=>
   if k>0 then
    if (ib+1+k == b.size)=true then pure (ForInStep.done (some<|out.push x++b.extract (ib+1) (ib+1+k)++a.extract ia a.size++b.extract (ib+1+k) b.size,out.push x++b.extract (ib+1) (ib+1+k),ia,ib+1+k,mg,j,k))
    else T3 a b (out.push x++b.extract (ib+1) (ib+1+k)) ia (ib+1+k) mg j k
   else T3 a b (out.push x) ia (ib+1) mg j k
  | _=>pure<|ForInStep.done (some<|out.push x++a.extract ia a.size++b.extract (ib+1) b.size,out.push x,ia,ib+1,mg,j,J)
abbrev T1 (a b out:Array Keyed)(ia ib mg J j:Nat):StateT SortSt Sem (ForInStep G):=do
 P6 mg
 let x <- elem' b ib
 let r <- Bk false x a ia (a.size-ia) 0
 match r with
 | some k=>
  if k>0 then
   if (ia+k+1 == a.size)=true then pure (ForInStep.done (some<|out++a.extract ia (ia+k)++b.extract ib b.size++a.extract (ia+k) a.size,out++a.extract ia (ia+k),ia+k,ib,mg,k,j))
   else if (ia+k == a.size)=true then pure (ForInStep.done (some<|out++a.extract ia (ia+k)++a.extract (ia+k) a.size++b.extract ib b.size,out++a.extract ia (ia+k),ia+k,ib,mg,k,j))
   else T2 a b (out++a.extract ia (ia+k)) (ia+k) ib mg k j
  else T2 a b out ia ib mg k j
 | _=>pure<|ForInStep.done (some<|out++a.extract ia a.size++b.extract ib b.size,out,ia,ib,mg,J,j)
section
variable {o:Ord}{A B ts:am}{na nb:Nat}
structure Mh (o:Ord)(A B ts:am)(na nb:Nat):Prop where
 la:na<=A.length
 lb:nb<=B.length
 len:ts.length+na+nb=A.length+B.length
 so:ts.Pairwise (P o)
 mem:∀x∈ts,x∈A\/x∈B
 ua:∀y∈A.take na,∀x∈ts,P o y x
 ub:∀y∈B.take nb,∀x∈ts,P o y x
end
meta abbrev H:=Option (Array Keyed)×Nat×Nat×Array Keyed×Nat×Nat×Nat
section
variable {o:Ord}{f:Nat->Keyed}{st0:SortSt}{X Y ts:am}{na nb:Nat}
abbrev Oh (o:Ord)(X Y:am)(n:Nat)(ts:am)(na nb:Nat):Prop:=Mh o X Y ts na nb/\1<=na/\2<=nb/\na+nb+n<=X.length+Y.length
abbrev H2 (o:Ord)(f:Nat->Keyed)(X Y:am)(n:Nat)(st0:SortSt):ForInStep H->SortSt->Prop:=λr d=>Sm st0 d/\match r with
 | .done c=>(∃r z,c=(some r,z)/\Res o f X Y r)\/∃ts na nb mg j g,c=(none,na,nb,fa f ts.reverse,mg,j,g)/\Oh o X Y n ts na nb
 | .yield c=>∃ts na nb mg j g,c=(none,na,nb,fa f ts.reverse,mg,j,g)/\Oh o X Y n ts na nb
end
meta abbrev pr (x:Nat×Nat×Nat):Nat×Nat:=(x.1,x.2.1)
abbrev Pj (o:Ord)(g:Nat->Nat):List (Nat×Nat)->Nat->Nat->Prop
 | [],a,b=>a=b
 | x::l,a,b=>x.1=a/\1<=x.2/\Cl g a (a+x.2)/\So o g a (a+x.2)/\Pj o g l (a+x.2) b
abbrev PA (o:Ord)(g:Nat->Nat)(p:Array<|Nat×Nat×Nat)(b:Nat):Prop:=Pj o g (p.toList.map pr) 0 b
meta abbrev vv (vs:ba)(i:Nat):Keyed:=(vs.getD i .none,vs.getD i .none)
end Sx
namespace Am
open PySem
inductive A where
 | unb|non|bl (b:Bool)|int (i:Int)|str (x:Str)|tup (xs:List A)|frz (xs:List A)|rng (lo hi:Int)|ref (n:Nat)|exn (c:Str)|ty (n:String)|ktu (xs:List A)
@[reducible]def ae:=List A
inductive O where
 | lst (xs:ae)|dct (kvs:List<|ag×A)|m_ (kvs:List<|Int×A)|dks (kvs:List<|Str×A)|dcp (kvs:List<|L2.Ez×A)|dcf (kvs:List<|ag×A)|dkf (kvs:List<|Int×A)|ins (c:Str) (fs:List<|Str×A)
meta abbrev iH:=List O
inductive R (α:Type) where
 | ok (a:α) (S:iH)|ex (c:Str) (S:iH)|no
abbrev R.bind {α β:Type}(r:R α)(f:α->iH->R β):R β:=match r with
 | .ok a S=>f a S
 | .ex c S=>.ex c S
 | .no=>.no
abbrev R.post {α:Type}(r:R α)(P:α->iH->Prop)(E:Str->iH->Prop):Prop:=match r with
 | .ok a S=>P a S
 | .ex c S=>E c S
 | .no=>False
def iI{α β:Type}{r:R α}{f:α->iH->R β}{P:β->iH->Prop}{E:Str->iH->Prop}(h:(r.bind f).post P E):r.post (λa S=>(f a S).post P E) E:=by
 cases r<;>exact h
def Ey{α:Type}{r:R α}{P j:α->iH->Prop}{E J:Str->iH->Prop}(h:r.post P E)(hp:∀a S,P a S->j a S)(L:∀c S,E c S->J c S):r.post j J:=by
 cases r with
 | ok a S=>exact hp _ _ h
 | ex c S=>exact L _ _ h
 | no=>exact h.elim
abbrev gd {α:Type}(c:Prop)[Decidable c](r:R α):R α:=if c then r else .no
abbrev opt {α β:Type}(o:Option β)(f:β->R α):R α:=match o with
 | some b=>f b
 | none=>.no
def i9{α:Type}{c:Prop}[Decidable c]{r:R α}{P:α->iH->Prop}{E:Str->iH->Prop}(h:(gd c r).post P E):c/\r.post P E:=by
 unfold gd at h;by_cases hc:c
 ·rw[aS hc]at h;exact⟨hc,h⟩
 ·rw[aU hc]at h;exact h.elim
def iK{α β:Type}{o:Option β}{f:β->R α}{P:α->iH->Prop}{E:Str->iH->Prop}(h:(opt o f).post P E):∃b,o=some b/\(f b).post P E:=by
 cases o with
 | none=>exact h.elim
 | some b=>exact⟨b,rfl,h⟩
abbrev iC (S:iH)(n:Nat):Option (ae):=match S[n]? with
 | some (.lst xs)=>some xs
 | _=>none
def iP{n:Nat}(h:iC S n=some xs):S[n]?=some (.lst xs):=by
 unfold iC at h;split at h
 ·rename_i e;cases h;exact e
 ·cases h
def rD{S:iH}{n:Nat}(h:S[n]?=some (.lst xs)):iC S n=some xs:=by
 unfold iC;rw[h]
inductive RS where
 | nx (τ:ae) (S:iH)|rt (a:A) (S:iH)|bk (τ:ae) (S:iH)|ct (τ:ae) (S:iH)|ex (c:Str) (S:iH)|no
meta abbrev Ex:=ae->iH->R A
meta abbrev n8:=ae->iH->R (ae)
meta abbrev Te:=ae->iH->R Bool
meta abbrev Sm:=ae->iH->RS
meta abbrev Tg:=A->ae->iH->R (ae)
end Am
namespace Am
open PySem L2
section
variable (K:aA) (ρ:bd) (H:Hp)
abbrev Tp (K:aA)(c:Str)(C:aq):Prop:=PySem.W.nsIn K mainGlobals c=some (some<|.ref C)
abbrev Fz (K:aA)(H:Hp)(a:aq)(vs:List V):Prop:=
 (∃o,H a=some (.frz o<|.lst vs))\/∃(o:Obj) (d:Array aa) (n:Nat),K.lookup a=some o/\o.cls=.type "list" /\ o.dict=none/\o.data=.seq d n/\d.size<=sizeLine/\Vals vs d.toList
abbrev Uc (K:aA)(a:aq)(vs:List V):Prop:=∃(o:Obj) (d:Array aa) (n:Nat),K.lookup a=some o/\o.cls=.type "tuple" /\ o.dict=none/\o.data=.seq d n/\d.size<=sizeLine/\Vals vs d.toList
mutual
inductive AV:A->V->Prop
 | non:AV .non .non
 | bl (b:Bool):AV (.bl b) (.bl b)
 | int (i:Int):AV (.int i) (.int i)
 | str (x:Str):AV (.str x) (.str x)
 | ty (n:String):AV (.ty n) (.ty n)
 | tup {a:aq} {xs:ae} {vs:List V} (h:H a=some (.tup vs)) (r:AVs xs vs):AV (.tup xs) (.ref a)
 | frz {a:aq} {xs:ae} {vs:List V} (h:Fz K H a vs) (r:AVs xs vs):AV (.frz xs) (.ref a)
 | rng {a:aq} {lo hi:Int} (h:H a=some (.rng lo hi)):AV (.rng lo hi) (.ref a)
 | ref {a:aq} {n:Nat} (h:ρ[n]?=some a):AV (.ref n) (.ref a)
 | exn {a C:aq} {c:Str} {oe:Obj} (n:Tp K c C) (h:H a=some (.frz oe xu)) (x:XO C oe):AV (.exn c) (.ref a)
 | ktu {a:aq} {xs:ae} {vs:List V} (h:Uc K a vs) (r:AVs xs vs):AV (.ktu xs)<|.ref a
inductive AVs:ae->List V->Prop
 | nil:AVs [] []
 | cons {x:A} {v:V} {xs:ae} {vs:List V} (h:AV x v) (t:AVs xs vs):AVs (x::xs) (v::vs)
end
abbrev DV:List (ag×A)->List (List Key×V)->Prop
 | [],[]=>True
 | p::r,q::r'=>(q.1=p.1.map Sum.inl/\AV K ρ H p.2 q.2)/\DV r r'
 | _,_=>False
abbrev DI:List (Int×A)->List (Key×V)->Prop
 | [],[]=>True
 | p::r,q::r'=>(q.1=Sum.inl p.1/\AV K ρ H p.2 q.2)/\DI r r'
 | _,_=>False
abbrev DS:List (Str×A)->List (Key×V)->Prop
 | [],[]=>True
 | p::r,q::r'=>(q.1=Sum.inr p.1/\AV K ρ H p.2 q.2)/\DS r r'
 | _,_=>False
abbrev DP:List (L2.Ez×A)->List (L2.Ez×aq×aa)->Prop
 | [],[]=>True
 | p::r,q::r'=>(q.1=p.1/\L2.yu H q.2.1 q.1/\∃v,RelV v q.2.2/\AV K ρ H p.2 v)/\DP r r'
 | _,_=>False
abbrev OR (a:aq):O->Prop
 | .lst xs=>∃d,H a=some (.lst d)/\AVs K ρ H xs d
 | .dct kvs=>∃ks,H a=some (.dT ks)/\DV K ρ H kvs ks
 | .m_ kvs=>∃ks,H a=some (.dK ks)/\DI K ρ H kvs ks
 | .dks kvs=>∃ks,H a=some (.dK ks)/\DS K ρ H kvs ks
 | .dcp kvs=>∃xs,H a=some (.ext<|L2.Q9 a xs)/\DP K ρ H kvs xs
 | .dcf kvs=>∃o ks,H a=some (.frz o<|.dT ks)/\DV K ρ H kvs ks
 | .dkf kvs=>∃o ks,H a=some (.frz o<|.dK ks)/\DI K ρ H kvs ks
 | .ins _ _=>∃o u,H a=some (.frz o u)
structure Rel (S:iH):Prop where
 len:ρ.length=S.length
 nd:ρ.Nodup
 «at»:∀(n:Nat) (a:aq) (o:O),ρ[n]?=some a->S[n]?=some o->OR K ρ H a o
end
abbrev T4:HO->Prop
 | .tup _=>True
 | .rng _ _=>True
 | .frz _ _=>True
 | _=>False
structure Ext0 (ρ ρ':bd)(H H':Hp):Prop where
 pre:ρ <+: ρ'
 im:∀a u,T4 u->H a=some u->H' a=some u
structure Ext (ρ ρ':bd)(H H':Hp):Prop extends Ext0 ρ ρ' H H' where
 fr:∀a u,H a=some u->a∉ρ->H' a=some u
 nw:∀a,a∈ρ'->a∈ρ\/H a=none
def Ext.refl{H:Hp}:Ext ρ ρ H H:=⟨⟨cN _,λ_ _ _ h=>h⟩,λ_ _ h _=>h,λ_ h=>.inl h⟩
def Ext.trans{H H1 H2:Hp}(a:Ext ρ ρ1 H H1)(b:Ext ρ1 ρ2 H1 H2):Ext ρ ρ2 H H2:=⟨⟨a.pre.trans b.pre,λx u i h=>b.im x u i<|a.im x u i h⟩,λx u h n=>b.fr x u (a.fr x u h n) λz=>(a.nw x z).elim n λz=>by(rw[z]at h;cases h),λx h=>by
 by_cases hx:x∈ρ
 ·exact .inl hx
 ·right
  cases q:H x with
  | none=>rfl
  | some u=>
   rcases b.nw x h with z|z
   ·exact((a.nw x z).elim hx λz=>by(rw[z]at q;cases q)).elim
   ·rw[a.fr x u q hx]at z;cases z⟩
def Ext0.get{H H':Hp}(e:Ext0 ρ ρ' H H'){n:Nat}{a:aq}(h:ρ[n]?=some a):ρ'[n]?=some a:=by
 obtain⟨t,rfl⟩:=e.pre;rw[aR (aL.mp h).1];exact h
section
variable {K:aA}{ρ ρ':bd}{H H':Hp}
def Ext0.TQ(e:Ext0 ρ ρ' H H'){a:aq}(h:l7 K H a vs):l7 K H' a vs:=by
 rcases h with(h|⟨o,h⟩)|h
 ·exact .inl (.inl<|e.im _ _ trivial h)
 ·exact .inl (.inr ⟨o,e.im _ _ trivial h⟩)
 ·exact .inr h
def Ext0.fz(e:Ext0 ρ ρ' H H'){a:aq}(h:Fz K H a vs):Fz K H' a vs:=by
 rcases h with⟨o,h⟩|h
 ·exact .inl ⟨o,e.im _ _ trivial h⟩
 ·exact .inr h
def Fz.Kh{a:aq}(h:Fz K H a vs):j5 K H a vs:=by
 rcases h with⟨o,h⟩|h
 ·exact .inl (.inr ⟨o,h⟩)
 ·exact .inr h
mutual
theorem AV.jA(e:Ext0 ρ ρ' H H'):∀{x:A}{v:V},AV K ρ H x v->AV K ρ' H' x v
 | _,_,.non=>.non
 | _,_,.bl b=>.bl b
 | _,_,.int i=>.int i
 | _,_,.str x=>.str x
 | _,_,.ty x=>.ty x
 | _,_,.tup h r=>.tup (e.im _ _ trivial h) (AVs.jA e r)
 | _,_,.frz h r=>.frz (e.fz h) (AVs.jA e r)
 | _,_,.rng h=>.rng (e.im _ _ trivial h)
 | _,_,.ref h=>.ref (e.get h)
 | _,_,.exn n h x=>.exn n (e.im _ _ trivial h) x
 | _,_,.ktu h r=>.ktu h<|AVs.jA e r
theorem AVs.jA(e:Ext0 ρ ρ' H H'):∀{xs:ae}{vs:List V},AVs K ρ H xs vs->AVs K ρ' H' xs vs
 | _,_,.nil=>.nil
 | _,_,.cons h t=>.cons (AV.jA e h)<|AVs.jA e t
end
theorem DV.jA(e:Ext0 ρ ρ' H H'):∀{xs:List<|ag×A}{vs:List<|List Key×V},DV K ρ H xs vs->DV K ρ' H' xs vs
 | [],[],_=>trivial
 | _::_,_::_,⟨⟨a,b⟩,r⟩=>⟨⟨a,AV.jA e b⟩,DV.jA e r⟩
def DV.ext{x:List<|ag×A}{v:List<|List Key×V}(h:DV K ρ H x v)(e:Ext ρ ρ' H H'):DV K ρ' H' x v:=DV.jA e.toExt0 h
theorem DI.jA(e:Ext0 ρ ρ' H H'):∀{xs:List<|Int×A}{vs:List<|Key×V},DI K ρ H xs vs->DI K ρ' H' xs vs
 | [],[],_=>trivial
 | _::_,_::_,⟨⟨a,b⟩,r⟩=>⟨⟨a,AV.jA e b⟩,DI.jA e r⟩
def DI.ext{x:List<|Int×A}{v:List<|Key×V}(h:DI K ρ H x v)(e:Ext ρ ρ' H H'):DI K ρ' H' x v:=DI.jA e.toExt0 h
theorem DS.jA(e:Ext0 ρ ρ' H H'):∀{xs:List<|Str×A}{vs:List<|Key×V},DS K ρ H xs vs->DS K ρ' H' xs vs
 | [],[],_=>trivial
 | _::_,_::_,⟨⟨a,b⟩,r⟩=>⟨⟨a,AV.jA e b⟩,DS.jA e r⟩
def DS.ext{x:List<|Str×A}{v:List<|Key×V}(h:DS K ρ H x v)(e:Ext ρ ρ' H H'):DS K ρ' H' x v:=DS.jA e.toExt0 h
def yu.jA{k:L2.Ez}(e:Ext0 ρ ρ' H H'):L2.yu H b k->L2.yu H' b k:=λ⟨r1,r2,h1,h2,d⟩=>⟨r1,r2,e.im _ _ trivial h1,e.im _ _ trivial h2,e.im _ _ trivial d⟩
theorem DP.jA(e:Ext0 ρ ρ' H H'):∀{xs:List<|L2.Ez×A}{vs:List<|L2.Ez×aq×aa},DP K ρ H xs vs->DP K ρ' H' xs vs
 | [],[],_=>trivial
 | _::_,_::_,⟨⟨a,k,v,c,b⟩,r⟩=>⟨⟨a,yu.jA e k,v,c,AV.jA e b⟩,DP.jA e r⟩
def DP.ext{x:List<|L2.Ez×A}{v:List<|L2.Ez×aq×aa}(h:DP K ρ H x v)(e:Ext ρ ρ' H H'):DP K ρ' H' x v:=DP.jA e.toExt0 h
def AV.ext{x:A}{v:V}(h:AV K ρ H x v)(e:Ext ρ ρ' H H'):AV K ρ' H' x v:=AV.jA e.toExt0 h
def AVs.ext{x:ae}{v:List V}(h:AVs K ρ H x v)(e:Ext ρ ρ' H H'):AVs K ρ' H' x v:=AVs.jA e.toExt0 h
theorem AVs.length:∀{xs:ae}{vs:List V},AVs K ρ H xs vs->xs.length=vs.length
 | _,_,.nil=>rfl
 | _,_,.cons _ t=>cA (·+1)<|AVs.length t
theorem AVs.append:∀{xs ys:ae}{vs ws:List V},AVs K ρ H xs vs->AVs K ρ H ys ws->AVs K ρ H (xs++ys) (vs++ws)
 | _,_,_,_,.nil,s=>s
 | _,_,_,_,.cons h t,s=>.cons h<|AVs.append t s
theorem AVs.take:∀{xs:ae}{vs:List V}(n:Nat),AVs K ρ H xs vs->AVs K ρ H (xs.take n) (vs.take n)
 | _,_,0,_=>.nil
 | _,_,_+1,.nil=>.nil
 | _,_,n+1,.cons h t=>.cons h<|AVs.take n t
theorem AVs.drop:∀{xs:ae}{vs:List V}(n:Nat),AVs K ρ H xs vs->AVs K ρ H (xs.drop n) (vs.drop n)
 | _,_,0,r=>r
 | _,_,_+1,.nil=>.nil
 | _,_,n+1,.cons _ t=>AVs.drop n t
theorem AVs.reverse:∀{xs:ae}{vs:List V},AVs K ρ H xs vs->AVs K ρ H xs.reverse vs.reverse
 | _,_,.nil=>.nil
 | _,_,.cons h t=>by rw[fQ,fQ];exact(AVs.reverse t).append (.cons h .nil)
theorem AVs.get:∀{xs:ae}{vs:List V}{i:Nat}{x:A},AVs K ρ H xs vs->xs[i]?=some x->∃v,vs[i]?=some v/\AV K ρ H x v
 | _,_,_,_,.nil,e=>by simp at e
 | _,_,0,_,.cons h _,e=>by simp at e;subst e;exact⟨_,rfl,h⟩
 | _,_,i+1,x,.cons _ t,e=>by
  obtain⟨u,h1,h2⟩:=AVs.get (i:=i) (x:=x) t (by simpa using e);exact⟨u,by simpa using h1,h2⟩
theorem AVs.set{x:A}{v:V}(h:AV K ρ H x v):∀{xs:ae}{vs:List V}(i:Nat),AVs K ρ H xs vs->AVs K ρ H (xs.set i x) (vs.set i v)
 | _,_,_,.nil=>.nil
 | _,_,0,.cons _ t=>.cons h t
 | _,_,i+1,.cons q t=>.cons q<|AVs.set h i t
def AVs.one{x:A}{v:V}(h:AV K ρ H x v):AVs K ρ H [x] [v]:=.cons h .nil
theorem pN:∀(ns:ag),AVs K ρ H (ns.map .int) (ns.map .int)
 | []=>.nil
 | n::ns=>.cons (.int n)<|pN ns
def Rel.lay{S:iH}{p:aq}(R:Rel K ρ H S)(hp:H p=none)(r:AVs K ρ H xs vs):Ext ρ (ρ++[p]) H (upd H p<|.lst vs)/\Rel K (ρ++[p]) (upd H p<|.lst vs) (S++[.lst xs])/\(ρ++[p])[S.length]?=some p:=by
 have ex:Ext ρ (ρ++[p]) H (upd H p<|.lst vs):=⟨⟨dz _ _,λa u _ h=>by rw[iG<|iQ h hp];exact h⟩,λa u h _=>by rw[iG<|iQ h hp];exact h,λa h=>by
  rcases bA.mp h with z|z
  ·exact .inl z
  ·have e:a=p:=by simpa using z
   rw[e];exact .inr hp⟩
 have f:∀(n:Nat) (a:aq),ρ[n]?=some a->a≠p:=by
  intro n a e z;subst z;have hn:n<S.length:=by rw[<- R.len];exact(aL.mp e).1
  have:=R.at n a S[n] e (aH hn)
  cases j:S[n]with
  | lst xs=>rw[j]at this;obtain⟨vs,h,_⟩:=this;rw[hp]at h;cases h
  | dct _|m_ _|dks _|dcp _=>rw[j]at this;obtain⟨vs,h,_⟩:=this;rw[hp]at h;cases h
  | dcf _|dkf _=>rw[j]at this;obtain⟨_,vs,h,_⟩:=this;rw[hp]at h;cases h
  | ins _ _=>rw[j]at this;obtain⟨_,_,h⟩:=this;rw[hp]at h;cases h
 have d:(ρ++[p])[S.length]?=some p:=by rw[<- R.len];simp
 refine⟨ex,⟨by simp[R.len],?_,?_⟩,d⟩
 ·rw[cK];refine⟨R.nd,by simp,λa t b hb e=>?_⟩;have:b=p:=by simpa using hb
  obtain⟨n,hn,m⟩:=dN.mp t;exact f n a (by rw[aH hn,m])<|e.trans this
 ·intro n a o h1 h2;by_cases hn:n<S.length
  ·rw[aR<|by rw[R.len];exact hn]at h1;rw[aR hn]at h2;have:=R.at n a o h1 h2
   cases o with
   | lst ys=>obtain⟨g,e,q⟩:=this;exact⟨g,by rw[iG<|f n a h1];exact e,q.ext ex⟩
   | dct _|m_ _|dks _|dcp _=>obtain⟨g,e,q⟩:=this;exact⟨g,by rw[iG<|f n a h1];exact e,q.ext ex⟩
   | dcf _|dkf _=>obtain⟨k,g,e,q⟩:=this;exact⟨k,g,by rw[iG<|f n a h1];exact e,q.ext ex⟩
   | ins _ _=>obtain⟨k,B,e⟩:=this;exact⟨k,B,by rw[iG<|f n a h1];exact e⟩
  ·have e:n=S.length:=by
    have:=(aL.mp h2).1;simp at this
    lia
   subst e;rw[d]at h1
   cases h1
   simp at h2;subst h2;exact⟨vs,i7,r.ext ex⟩
def Rel.im{p:aq}(R:Rel K ρ H S)(hp:H p=none):Ext ρ ρ H (upd H p u)/\Rel K ρ (upd H p u) S:=by
 have ex:Ext ρ ρ H (upd H p u):=⟨⟨cN _,λa u _ h=>by rw[iG<|iQ h hp];exact h⟩,λa u h _=>by rw[iG<|iQ h hp];exact h,λ_ h=>.inl h⟩;refine⟨ex,R.len,R.nd,λn a o h1 h2=>?_⟩;have:=R.at n a o h1 h2
 cases o with
 | lst ys=>obtain⟨d,e,q⟩:=this;exact⟨d,by rw[iG<|iQ e hp];exact e,q.ext ex⟩
 | dct _|m_ _|dks _|dcp _=>obtain⟨d,e,q⟩:=this;exact⟨d,by rw[iG<|iQ e hp];exact e,q.ext ex⟩
 | dcf _|dkf _=>obtain⟨f,d,e,q⟩:=this;exact⟨f,d,by rw[iG<|iQ e hp];exact e,q.ext ex⟩
 | ins _ _=>obtain⟨f,g,e⟩:=this;exact⟨f,g,by rw[iG<|iQ e hp];exact e⟩
def Rel.put{S:iH}{n:Nat}{a:aq}(R:Rel K ρ H S)(J:ρ[n]?=some a)(L:S[n]?=some (.lst xs))(r:AVs K ρ H ys ws):Ext ρ ρ H (upd H a<|.lst ws)/\Rel K ρ (upd H a<|.lst ws) (S.set n<|.lst ys):=by
 obtain⟨B,e,_⟩:=R.at n a _ J L;have ex:Ext ρ ρ H (upd H a<|.lst ws):=⟨⟨cN _,λb u i h=>by
  have:b≠a:=by
   intro z;subst z;rw[e]at h;cases h;exact i
  rw[iG this];exact h⟩,λb u h n=>by
  rw[iG λz=>n<|by rw[z];exact bz J];exact h,λ_ h=>.inl h⟩
 refine⟨ex,by rw[bH];exact R.len,R.nd,λm b o h1 h2=>?_⟩;by_cases hm:m=n
 ·subst hm;rw[J]at h1;cases h1;rw[bG (aL.mp L).1]at h2
  cases h2
  exact⟨ws,i7,r.ext ex⟩
 ·rw[bF<|cj hm]at h2;have nb:b≠a:=λz=>by
   subst z;obtain⟨k,e1⟩:=aL.mp J;obtain⟨t,e2⟩:=aL.mp h1;exact hm<|(eW R.nd).mp<|e2.trans e1.symm
  have:=R.at m b o h1 h2
  cases o with
  | lst ys=>obtain⟨d,f,q⟩:=this;exact⟨d,by rw[iG nb];exact f,q.ext ex⟩
  | dct _|m_ _|dks _|dcp _=>obtain⟨d,f,q⟩:=this;exact⟨d,by rw[iG nb];exact f,q.ext ex⟩
  | dcf _|dkf _=>obtain⟨g,d,f,q⟩:=this;exact⟨g,d,by rw[iG nb];exact f,q.ext ex⟩
  | ins _ _=>obtain⟨g,j,f⟩:=this;exact⟨g,j,by rw[iG nb];exact f⟩
def Rel.lst{n:Nat}{a:aq}(R:Rel K ρ H S)(j:ρ[n]?=some a)(J:S[n]?=some (.lst xs)):∃vs,H a=some (.lst vs)/\AVs K ρ H xs vs:=R.at n a _ j J
structure SR (K:aA)(ρ:bd)(H:Hp)(τ:ae)(σ:St):Prop where
 len:τ.length=σ.length
 «at»:∀(i:Nat) (a:A),τ[i]?=some a->a=.unb\/∃v,σ[i]?=some (some v)/\AV K ρ H a v
def SR.jA(s:SR K ρ H τ σ)(e:Ext0 ρ ρ' H H'):SR K ρ' H' τ σ:=⟨s.len,λi a h=>by
 rcases s.at i a h with z|⟨v,h1,h2⟩
 ·exact .inl z
 ·exact .inr ⟨v,h1,AV.jA e h2⟩⟩
def SR.ext(s:SR K ρ H τ σ)(e:Ext ρ ρ' H H'):SR K ρ' H' τ σ:=s.jA e.toExt0
def Rel.out(R:Rel K ρ H S)(j:H D=some (.lst vs))(hn:D∉ρ):Ext0 ρ ρ H (upd H D<|.lst ws)/\Rel K ρ (upd H D<|.lst ws) S:=by
 have ex:Ext0 ρ ρ H (upd H D<|.lst ws):=⟨cN _,λb u i h=>by
  have:b≠D:=by
   intro z;subst z;rw[j]at h;cases h;exact i
  rw[iG this];exact h⟩
 refine⟨ex,R.len,R.nd,λn a o h1 h2=>?_⟩;have na:a≠D:=λz=>hn (by rw[<- z];exact bz h1);have:=R.at n a o h1 h2
 cases o with
 | lst ys=>obtain⟨d,e,q⟩:=this;exact⟨d,by rw[iG na];exact e,AVs.jA ex q⟩
 | dct _|m_ _|dks _|dcp _=>obtain⟨d,e,q⟩:=this;exact⟨d,by rw[iG na];exact e,q.jA ex⟩
 | dcf _|dkf _=>obtain⟨f,d,e,q⟩:=this;exact⟨f,d,by rw[iG na];exact e,q.jA ex⟩
 | ins _ _=>obtain⟨f,g,e⟩:=this;exact⟨f,g,by rw[iG na];exact e⟩
def Rel.take{S:iH}{D:aq}(R:Rel K ρ H S)(J:H D=some (.lst vs))(hn:D∉ρ)(r:AVs K ρ H xs vs):Rel K (ρ++[D]) H (S++[.lst xs])/\(ρ++[D])[S.length]?=some D:=by
 have ex:Ext0 ρ (ρ++[D]) H H:=⟨dz _ _,λ_ _ _ h=>h⟩;have d:(ρ++[D])[S.length]?=some D:=by rw[<- R.len];simp
 refine⟨⟨by simp[R.len],?_,λn a o h1 h2=>?_⟩,d⟩
 ·rw[cK];refine⟨R.nd,by simp,λa j b hb e=>?_⟩;have:b=D:=by simpa using hb
  exact hn<|by rw[<- this,<- e];exact j
 ·by_cases hs:n<S.length
  ·rw[aR<|by rw[R.len];exact hs]at h1;rw[aR hs]at h2;have:=R.at n a o h1 h2
   cases o with
   | lst ys=>obtain⟨f,e,q⟩:=this;exact⟨f,e,AVs.jA ex q⟩
   | dct _|m_ _|dks _|dcp _=>obtain⟨f,e,q⟩:=this;exact⟨f,e,q.jA ex⟩
   | dcf _|dkf _=>obtain⟨g,f,e,q⟩:=this;exact⟨g,f,e,q.jA ex⟩
   | ins _ _=>obtain⟨g,k,e⟩:=this;exact⟨g,k,e⟩
  ·have e:n=S.length:=by
    have:=(aL.mp h2).1;simp at this
    lia
   subst e;rw[d]at h1
   cases h1
   simp at h2;subst h2;exact⟨vs,J,AVs.jA ex r⟩
def SR.set{τ:ae}{σ:St}{a:A}{v:V}(s:SR K ρ H τ σ)(h:AV K ρ H a v):SR K ρ H (τ.set i a) (σ.set i<|some v):=by
 refine⟨by simp[s.len],λj b e=>?_⟩;by_cases d:j=i
 ·subst d;have f:j<τ.length:=by
   have:=(aL.mp e).1;simpa using this
  rw[bG f]at e
  cases e
  exact .inr ⟨v,bG<|by rw[<- s.len];exact f,h⟩
 ·rw[bF<|cj d]at e;rw[bF<|cj d];exact s.at j b e
end
end Am
namespace Am
open PySem PySem.Spec PyProof.Rows L2
abbrev XE (X:Cx)(ρ:bd)(H:Hp):Str->iH->Prop:=λc d=>∀(C:aq) (ρ':bd) (H':Hp),Tp X.K c C->Ext ρ ρ' H H'->Rel X.K ρ' H' d->EX X (.ref C) none H'
def XE.ext{H H':Hp}(h:XE X ρ H c S)(e:Ext ρ ρ' H H'):XE X ρ' H' c S:=λC d H2 n e2=>h C d H2 n<|e.trans e2
abbrev tY (X:Cx)(ρ:bd)(H:Hp)(Q:VK):A->iH->Prop:=λa d=>∀ρ' H' v,Ext ρ ρ' H H'->Rel X.K ρ' H' d->AV X.K ρ' H' a v->Q v H'
abbrev QW (X:Cx)(ρ:bd)(H:Hp)(Q:Bool->Hp->Prop):Bool->iH->Prop:=λb d=>∀ρ' H',Ext ρ ρ' H H'->Rel X.K ρ' H' d->Q b H'
abbrev Ub (X:Cx)(ρ:bd)(H:Hp)(Q:List V->Hp->Prop):ae->iH->Prop:=λg f=>∀ρ' H' d,Ext ρ ρ' H H'->Rel X.K ρ' H' f->AVs X.K ρ' H' g d->Q d H'
def tY.ext{H H':Hp}{Q:VK}{a:A}(h:tY X ρ H Q a S)(e:Ext ρ ρ' H H'):tY X ρ' H' Q a S:=λd H2 v e2=>h d H2 v<|e.trans e2
def QW.ext{H H':Hp}{Q:Bool->Hp->Prop}{a:Bool}(h:QW X ρ H Q a S)(e:Ext ρ ρ' H H'):QW X ρ' H' Q a S:=λd H2 e2=>h d H2<|e.trans e2
def iE{α:Type}{H H':Hp}{r:R α}{P j:α->iH->Prop}(h:r.post P<|XE X ρ H)(e:Ext ρ ρ' H H')(hp:∀a S,P a S->j a S):r.post j (XE X ρ' H'):=Ey h hp λ_ _ z=>z.ext e
abbrev tE (X:Cx)(c:Ex):TE:=λσ H Q=>∃ρ S τ,Rel X.K ρ H S/\SR X.K ρ H τ σ/\(c τ S).post (tY X ρ H Q) (XE X ρ H)
abbrev tT (X:Cx)(c:Te):TT:=λσ H Q=>∃ρ S τ,Rel X.K ρ H S/\SR X.K ρ H τ σ/\(c τ S).post (QW X ρ H Q) (XE X ρ H)
abbrev tL (X:Cx)(c:n8):TA:=λσ H Q=>∃ρ S τ,Rel X.K ρ H S/\SR X.K ρ H τ σ/\(c τ S).post (Ub X ρ H Q) (XE X ρ H)
abbrev AE (X:Cx)(e:aF)(c:Ex):Prop:=PE X e<|tE X c
abbrev AT (X:Cx)(e:aF)(c:Te):Prop:=PT X e<|tT X c
abbrev AW (X:Cx)(e:aF)(c:Te):Prop:=PW X e<|tT X c
abbrev AL (X:Cx)(es:List aF)(c:n8):Prop:=PA X es<|tL X c
def PE.imp{t t':TE}(h:PE X e t)(i:∀σ H Q,t' σ H Q->t σ H Q):PE X e t':=λpins s σ H Q I q=>h pins s σ H Q I<|i σ H Q q
def PT.imp{t t':TT}(h:PT X e t)(i:∀σ H Q,t' σ H Q->t σ H Q):PT X e t':=λpins s σ H Q I q=>h pins s σ H Q I<|i σ H Q q
def PW.imp{t t':TT}(h:PW X e t)(i:∀σ H Q,t' σ H Q->t σ H Q):PW X e t':=λw pins s σ H Q I q=>h w pins s σ H Q I<|i σ H Q q
def PA.imp{t t':TA}(h:PA X e t)(i:∀σ H Q,t' σ H Q->t σ H Q):PA X e t':=λp pins s σ H Q I q=>h p pins s σ H Q I<|i σ H Q q
def AW.at{c:Te}(h:AW X e c):AT X e c:=h _
abbrev A.kZ:A->Bool
 | .unb=>true
 | _=>false
abbrev iB (i:Nat):Ex:=λτ S=>if (τ.getD i .unb).kZ then .no else .ok (τ.getD i .unb) S
abbrev eC (a:A):Ex:=λ_ S=>.ok a S
section
variable {X:Cx}{pos:Pos}{a b:aF}
def iA(i:Nat){x:Str}(J:X.N[i]?=some x<|>ε)(hv:OU X.env.scope x:=by first|exact Or.inl rfl|exact Or.inr (Or.inl rfl)|exact Or.inr<|Or.inr rfl)(hd:(x == ("__debug__" : Str))=false:=by decide)
  (j:(x == ("__classdict__" : Str))=false:=by decide):AE X (.Name x pos) (iB i):=PE.imp (EW J hv hd j) λσ H Q h9=>by
 z_go;unfold iB at h
 cases hi:τ[i]? with
 | none=>
  rw[aI,hi]at h;exact h.elim
 | some x=>
  rw[aI,hi]at h
  rcases r.at i x hi with z|⟨v,e,q⟩
  ·subst z;exact h.elim
  ·refine⟨v,e,?_⟩
   cases x<;>first|(exact h ρ H v .refl R q)|exact h.elim
def iN{i:Int}{j pos}:AE X (.Constant (.int i) j pos) (eC<|.int i):=PE.imp AJ λσ H Q ⟨ρ,S,τ,R,r,h⟩=>h ρ H _ .refl R<|.int i
def tU{j pos}:AE X (.Constant (.bool i) j pos) (eC<|.bl i):=PE.imp Pb λσ H Q ⟨ρ,S,τ,R,r,h⟩=>h ρ H _ .refl R<|.bl i
def zh{x:Str}{i:Int}{t:Tok}(hm:X.mg x=some (.int i t))(hg:Gl X x<|>ε)(hd:(x == ("__debug__" : Str))=false<|>δ):AE X (.Name x pos) (eC<|.int i):=
 PE.imp (Lh (v:=.int i) hg hm ⟨t,rfl⟩ hd) λσ H Q ⟨ρ,S,τ,R,r,h⟩=>h ρ H _ .refl R<|.int i
abbrev iR (f:A->A->iH->R A)(ca cb:Ex):Ex:=λτ S=>(ca τ S).bind λa S1=>(cb τ S1).bind λb S2=>f a b S2
abbrev r2 (X:Cx)(f:A->A->iH->R A):R2:=λx y H Q=>∃ρ S a b,Rel X.K ρ H S/\AV X.K ρ H a x/\AV X.K ρ H b y/\(f a b S).post (tY X ρ H Q) (XE X ρ H)
abbrev r1 (X:Cx)(f:A->iH->R A):V->Hp->VK->Prop:=λx H Q=>∃ρ S a,Rel X.K ρ H S/\AV X.K ρ H a x/\(f a S).post (tY X ρ H Q) (XE X ρ H)
abbrev rN (X:Cx)(f:ae->iH->R A):List V->Hp->VK->Prop:=λxs H Q=>∃ρ S d,Rel X.K ρ H S/\AVs X.K ρ H d xs/\(f d S).post (tY X ρ H Q) (XE X ρ H)
def l8.imp{f:aa->aa->Sem aa}{r r':R2}(h:l8 X f r)(i:∀x y H Q,r' x y H Q->r x y H Q):l8 X f r':=λpins s σ H x y v u Q I rx ry q=>h pins s σ H x y v u Q I rx ry<|i _ _ _ _ q
def jj.imp{f:aa}{r r':List V->Hp->VK->Prop}(h:jj X f r)(i:∀x H Q,r' x H Q->r x H Q):jj X f r':=λpins s σ H x v Q I rx q=>h pins s σ H x v Q I rx<|i _ _ _ q
def p_{f:A->A->iH->R A}{ca cb:Ex}{H:Hp}{Q:VK}(h:tE X (iR f ca cb) σ H Q):Qn (r2 X f) (tE X ca) (tE X cb) σ H Q:=by
 kl_no;refine⟨ρ,S,τ,R,r,iE (iI h) .refl λa S1 h1 ρ1 H1 x e1 j k=>⟨ρ1,S1,τ,j,r.ext e1,iE (iI h1) e1 λb S2 h2 d H2 y e2 R2 g=>?_⟩⟩;exact⟨d,S2,a,b,R2,k.ext e2,g,iE h2 (e1.trans e2) λc S3 m=>m.ext<|e1.trans e2⟩
def jm{f:A->A->iH->R A}{ca cb:Ex}(j:l8 X (binaryOp op)<|r2 X f)(J:AE X a ca)(hb:AE X b cb):AE X (.BinOp a op b pos) (iR f ca cb):=
 PE.imp (Py j J hb) λσ H Q h=>p_ h
def oN{j:CmpOp}{f:A->A->iH->R A}{ca cb:Ex}(J:l8 X (compareOp j)<|r2 X f)(L:AE X a ca)(hb:AE X b cb)(hm:behindInMarks j b=false:=by first|exact G_ _|with_unfolding_all rfl):AE X (.Compare a [j] [b] pos) (iR f ca cb):=
 PE.imp (J0 J L hb hm) λσ H Q h=>p_ h
abbrev A.PB:A->iH->bn
 | .non,_=>some false
 | .bl b,_=>some b
 | .int i,_=>some (i != 0)
 | .str x,_=>if x.length<=sizeLine then some ((x.length:Int) != 0)else none
 | .tup xs,_=>some (!xs.isEmpty)
 | .frz xs,_=>some (!xs.isEmpty)
 | .ref n,S=>(iC S n).map λxs=>!xs.isEmpty
 | _,_=>none
abbrev vF (c:Ex):Te:=λτ S=>(c τ S).bind λa S1=>opt (a.PB S1) λb=>.ok b S1
abbrev qe (c:Ex):Te:=λτ S=>(c τ S).bind λa S1=>match a with
 | .bl b=>.ok b S1
 | _=>.no
def yk{K:aA}{H:Hp}{b:Bool}{v:V}(h:AV K ρ H (.bl b) v):v=.bl b:=by cases h;rfl
def jB{j:CmpOp}{f:A->A->iH->R A}{ca cb:Ex}(J:l8 X (compareOp j)<|r2 X f)(L:AE X a ca)(hb:AE X b cb)(hm:behindInMarks j b=false:=by first|exact G_ _|with_unfolding_all rfl):AT X (.Compare a [j] [b] pos) (qe<|iR f ca cb):=
 PT.imp (JL J L hb hm) λσ H Q h9=>by
  z_go;refine p_ ⟨ρ,S,τ,R,r,iE (iI h) .refl λc S1 h1 ρ1 H1 x e1 g d=>?_⟩
  cases c with
  | bl k=>cases yk d;exact⟨k,rfl,h1 ρ1 H1 e1 g⟩
  | _=>exact h1.elim
def OC{K:aA}{H:Hp}{x:A}{v:V}{b:Bool}(R:Rel K ρ H S)(h:AV K ρ H x v)(e:x.PB S=some b):Of K v H b:=by
 have d:∀{xs:ae} {f:List V},AVs K ρ H xs f->(!xs.isEmpty)=!f.isEmpty:=λr=>by cases r<;>rfl
 cases h with
 | non=>exact(aW e).symm
 | bl b=>exact(aW e).symm
 | int i=>exact(aW e).symm
 | str x=>
  by_cases hx:x.length<=sizeLine
  ·exact⟨hx,by have:=(aS hx).symm.trans e;exact(aW this).symm⟩
  ·have:=(aU hx).symm.trans e;cases this
 | tup h r=>exact .inr (.inl ⟨_,l7.of h,by rw[<- d r];exact(aW e).symm⟩)
 | frz h r=>exact .inl ⟨_,h.Kh,by rw[<- d r];exact(aW e).symm⟩
 | rng h=>cases e
 | ty n=>cases e
 | exn n h x=>cases e
 | ktu h r=>cases e
 | @ref a n h=>
  have e:(iC S n).map (λxs=>!xs.isEmpty)=some b:=e;obtain⟨xs,hn,e⟩:=bu.mp e;obtain⟨f,h1,h2⟩:=R.lst h<|iP hn;exact .inl ⟨f,j5.of h1,by rw[<- d h2];exact e.symm⟩
def pK{ca:Ex}(j:AE X a ca)(J:(∀whole,isTrue a X.env whole=(do let v <- whole;standAt a.pos;holding [v] (truthy v)))<|>ζ):AT X a (vF ca):=
 PT.imp (GO j J) λσ H Q ⟨ρ,S,τ,R,r,h⟩=>⟨ρ,S,τ,R,r,iE (iI h) .refl λc S1 h1 ρ1 H1 x e1 d f=>by
  obtain⟨b,hb,h1⟩:=iK h1;exact⟨b,OC d f hb,h1 ρ1 H1 e1 d⟩⟩
abbrev zB (c:Te):Te:=λτ S=>(c τ S).bind λb S1=>.ok (!b) S1
abbrev vC (c d:Te):Te:=λτ S=>(c τ S).bind λb S1=>match b with|true=>d τ S1|false=>.ok false S1
abbrev L8 (c d:Te):Te:=λτ S=>(c τ S).bind λb S1=>match b with|true=>.ok true S1|false=>d τ S1
def sV{c:Te}(h:AT X a c):AT X (.UnaryOp .Not a pos) (zB c):=PT.imp (OJ h) λσ H Q ⟨ρ,S,τ,R,r,h⟩=>⟨ρ,S,τ,R,r,iE (iI h) .refl λb S1 h1=>h1⟩
def and_imp{c d:Te}{H:Hp}{Q:Bool->Hp->Prop}(h:tT X (vC c d) σ H Q):Pf (tT X c) (tT X d) σ H Q:=by
 kl_no;refine⟨ρ,S,τ,R,r,iE (iI h) .refl λb S1 h1 ρ1 H1 e1 f=>?_⟩
 cases b with
 | true=>
  rw[aS rfl];exact⟨ρ1,S1,τ,f,r.ext e1,iE h1 e1 λ_ _ z=>z.ext e1⟩
 | false=>
  rw[aU bg];exact h1 ρ1 H1 e1 f
def or_imp{c d:Te}{H:Hp}{Q:Bool->Hp->Prop}(h:tT X (L8 c d) σ H Q):Tr (tT X c) (tT X d) σ H Q:=by
 kl_no;refine⟨ρ,S,τ,R,r,iE (iI h) .refl λb S1 h1 ρ1 H1 e1 f=>?_⟩
 cases b with
 | false=>
  rw[aU bg];exact⟨ρ1,S1,τ,f,r.ext e1,iE h1 e1 λ_ _ z=>z.ext e1⟩
 | true=>
  rw[aS rfl];exact h1 ρ1 H1 e1 f
variable {rest:List aF}
def ud{c:Te}(h:AT X a c):AW X (.BoolOp .And [a] pos) c:=Jw h
def xD{c:Te}(h:AT X a c):AW X (.BoolOp .Or [a] pos) c:=OB h
def xT{c d:Te}(h:AT X a c)(h2:AW X (.BoolOp .And (b::rest) pos) d):AW X (.BoolOp .And (a::b::rest) pos) (vC c d):=PW.imp (NY h h2) λ_ _ _ q=>and_imp q
def zg{c d:Te}(h:AT X a c)(h2:AW X (.BoolOp .Or (b::rest) pos) d):AW X (.BoolOp .Or (a::b::rest) pos) (L8 c d):=PW.imp (QS h h2) λ_ _ _ q=>or_imp q
abbrev vH (c d:Ex):Ex:=λτ S=>(c τ S).bind λa S1=>match a with | .bl true=>d τ S1 | .bl false=>.ok (.bl false) S1|_=>.no
abbrev Ti (c d:Ex):Ex:=λτ S=>(c τ S).bind λa S1=>match a with | .bl true=>.ok (.bl true) S1 | .bl false=>d τ S1|_=>.no
abbrev MH (c:Ex):Ex:=λτ S=>(c τ S).bind λa S1=>match a with | .bl b=>.ok (.bl !b) S1|_=>.no
def sY{op}{c:Ex}(h:AE X a c):AE X (.BoolOp op [a] pos) c:=MY h
def qK{c d:Ex}(h:AE X a c)(h2:AE X (.BoolOp .And (b::rest) pos) d):AE X (.BoolOp .And (a::b::rest) pos) (vH c d):=PE.imp (ND h h2) λσ H Q h9=>by
 z_go;refine⟨ρ,S,τ,R,r,iE (iI h) .refl λb S1 h1 ρ1 H1 x e1 f g=>?_⟩
 cases b with
 | bl k=>
  cases yk g
  refine⟨k,rfl,?_⟩
  cases k with
  | true=>
   rw[aS rfl];exact⟨ρ1,S1,τ,f,r.ext e1,iE h1 e1 λ_ _ z=>z.ext e1⟩
  | false=>
   rw[aU bg];exact h1 ρ1 H1 _ e1 f<|.bl false
 | _=>exact h1.elim
def OL{c:Ex}(h:AE X a c):AE X (.UnaryOp .Not a pos) (MH c):=PE.imp (MF h) λσ H Q h9=>by
 z_go;refine⟨ρ,S,τ,R,r,iE (iI h) .refl λb S1 h1 ρ1 H1 x e1 f d=>?_⟩
 cases b with
 | bl k=>
  cases yk d
  exact⟨k,rfl,h1 ρ1 H1 _ e1 f<|.bl _⟩
 | _=>exact h1.elim
abbrev Ud (t:Te)(c d:Ex):Ex:=λτ S=>(t τ S).bind λb S1=>match b with|true=>c τ S1|false=>d τ S1
abbrev iO:n8:=λ_ S=>.ok [] S
abbrev iD (c:Ex)(d:n8):n8:=λτ S=>(c τ S).bind λa S1=>(d τ S1).bind λf S2=>.ok (a::f) S2
def iL:AL X [] iO:=PA.imp sf λσ H Q ⟨ρ,S,τ,R,r,h⟩=>h ρ H _ .refl R .nil
def iF{c:Ex}{d:n8}(J:AE X e c)(hr:AL X es d)(hs:starEach (e::es) X.env=(false,eval e X.env)::starEach es X.env<|>ε):AL X (e::es) (iD c d):=
 PA.imp (ly J hr hs) λσ H Q h9=>by
  z_go;refine⟨ρ,S,τ,R,r,iE (iI h) .refl λa S1 h1 ρ1 H1 x e1 j k=>⟨ρ1,S1,τ,j,r.ext e1,iE (iI h1) e1 λm S2 h2 f H2 xs e2 R2 g=>?_⟩⟩;exact h2 f H2 _ (e1.trans e2) R2<|.cons (k.ext e2) g
abbrev qh (d:n8):Ex:=λτ S=>(d τ S).bind λf S1=>gd (f.length<=sizeLine)<|.ok (.tup f) S1
abbrev newL (j:ae)(S:iH):R A:=gd (j.length<=sizeLine)<|.ok (.ref S.length)<|S++[.lst j]
abbrev rH (d:n8):Ex:=λτ S=>(d τ S).bind λf S1=>newL f S1
def ue{H j:Hp}{Q:VK}(R:Rel X.K ρ H S)(r:AVs X.K ρ H as vs)(e:Ext ρ0 ρ j H)(h:tY X ρ0 j Q (.tup as) S):∀p,H p=none->Q (.ref p) (upd H p<|.tup vs):=λp hp=>by
 obtain⟨ex,d⟩:=R.im (u:=.tup vs) hp;exact h ρ _ _ (e.trans ex) d<|.tup i7<|r.ext ex
def kN{H j:Hp}{S:iH}{Q:VK}(R:Rel X.K ρ H S)(r:AVs X.K ρ H as vs)(e:Ext ρ0 ρ j H)(h:tY X ρ0 j Q (.ref S.length)<|S++[.lst as]):∀p,H p=none->Q (.ref p) (upd H p<|.lst vs):=λp hp=>by
 obtain⟨ex,d,g⟩:=R.lay hp r;exact h _ _ _ (e.trans ex) d<|.ref g
def Km{H j:Hp}{vs:List V}{Q:VK}(R:Rel X.K ρ H S)(r:AVs X.K ρ H as vs)(e:Ext ρ0 ρ j H)(h:(newL as S).post (tY X ρ0 j Q)<|XE X ρ0 j):vs.length<=sizeLine/\∀p,H p=none->Q (.ref p) (upd H p<|.lst vs):=by
 obtain⟨d,h⟩:=i9 h;exact⟨by rw[<- r.length];exact d,kN R r e h⟩
def oK{d:n8}{x1}(h:AL X es d):AE X (.Tuple es x1 pos) (qh d):=PE.imp (MN h) λσ H Q h9=>by
 z_go;refine⟨ρ,S,τ,R,r,iE (iI h) .refl λk S1 h1 ρ1 H1 xs e1 j f=>?_⟩;obtain⟨g,h1⟩:=i9 h1;exact⟨by rw[<- f.length];exact g,ue j f e1 h1⟩
def nA{d:n8}(h:AL X es d):AE X (.List es pos) (rH d):=PE.imp (MA h) λσ H Q ⟨ρ,S,τ,R,r,h⟩=>
 ⟨ρ,S,τ,R,r,iE (iI h) .refl λj S1 h1 ρ1 H1 xs e1 g f=>Km g f e1 h1⟩
end
section
variable {X:Cx}{pos:Pos}{a b:aF}
abbrev aSub (a b:A)(S:iH):R A:=match a,b with
 | .int i,.int j=>.ok (.int<|i-j) S
 | _,_=>.no
def IX:l8 X (binaryOp .Sub) (r2 X aSub):=l8.imp Ov λx y H Q h9=>by
 x_go
 cases va<;>first|exact h.elim|(cases vb<;>first|exact h.elim|exact⟨_,_,rfl,rfl,h _ _ _ .refl R<|.int _⟩)
abbrev BY (i j:Int):Bool:=(decide (-(2 ^ 64)<i) && decide (i<2 ^ 64)) || (decide (-(2 ^ 64)<j) && decide (j<2 ^ 64))
def mulOk_of{i j:Int}(h:BY i j=true):K4 i j:=by
 unfold BY at h;dsimp[c8,bZ,fR]at h;exact h
abbrev zY (a b:A)(S:iH):R A:=match a,b with
 | .int i,.int j=>gd (BY i j) (.ok (.int<|i * j) S)
 | .ref n,.int k=>opt (iC S n) λxs=>gd (-(2 ^ 63)<=k/\k<2 ^ 63/\xs.length * k.toNat<=sizeLine) (.ok (.ref S.length)<|S++[.lst (List.replicate k.toNat xs).flatten])
 | _,_=>.no
theorem AVs.rep{K:aA}{H:Hp}(r:AVs K ρ H xs vs):∀k:Nat,AVs K ρ H (List.replicate k xs).flatten (List.replicate k vs).flatten
 | 0=>.nil
 | k+1=>by rw[cQ,cQ,bS,bS];exact r.append<|AVs.rep r k
def EZ:l8 X (binaryOp .Mult) (r2 X zY):=λpins s σ H x y v u Q I rx ry h9=>by
 x_go
 cases va with
 | int i=>
  cases vb with
  | int j=>
   obtain⟨hm,h⟩:=i9 h;exact Nr pins s σ H _ _ v u Q I rx ry ⟨i,j,rfl,rfl,mulOk_of hm,h _ _ _ .refl R<|.int _⟩
  | _=>exact h.elim
 | @ref p n hp=>
  cases vb with
  | int k=>
   gn_on;obtain⟨hc,h⟩:=i9 h;obtain⟨d,h1,h2⟩:=R.lst hp<|iP hn;exact OI pins s σ H _ _ v u Q I rx ry ⟨p,k,d,rfl,rfl,h1,hc.1,hc.2.1,by rw[<- h2.length];exact hc.2.2,kN R (h2.rep _) .refl h⟩
  | _=>exact h.elim
 | _=>exact h.elim
abbrev AZ (a b:A)(S:iH):R A:=match a,b with
 | .int i,.int j=>gd (0<j/\j<18446744073709551616) (.ok (.int<|i / j) S)
 | _,_=>.no
def IF:l8 X (binaryOp .FloorDiv) (r2 X AZ):=l8.imp G3 λx y H Q h9=>by
 x_go
 cases va<;>first|exact h.elim|(cases vb<;>first|exact h.elim|exact⟨_,_,rfl,rfl,(i9 h).1,(i9 h).2 _ _ _ .refl R<|.int _⟩)
abbrev xC (a b:A)(S:iH):R A:=match a,b with
 | .int i,.int j=>gd (0<j) (.ok (.int<|i % j) S)
 | _,_=>.no
def zH:l8 X (binaryOp .Mod) (r2 X xC):=l8.imp OF λx y H Q h9=>by
 x_go
 cases va<;>first|exact h.elim|(cases vb<;>first|exact h.elim|exact⟨_,_,rfl,rfl,(i9 h).1,(i9 h).2 _ _ _ .refl R<|.int _⟩)
abbrev Eb (a b:A)(S:iH):R A:=match a,b with
 | .int i,.int j=>gd (0<=j/\j<=1000000/\i.natAbs<2 ^ 64) (.ok (.int<|i ^ j.toNat) S)
 | _,_=>.no
def Mn:l8 X (binaryOp .Pow) (r2 X Eb):=l8.imp NP λx y H Q h9=>by
 x_go
 cases va<;>first|exact h.elim|(cases vb<;>first|exact h.elim|exact⟨_,_,rfl,rfl,(i9 h).1,(i9 h).2 _ _ _ .refl R<|.int _⟩)
abbrev ow (a b:A)(S:iH):R A:=match a,b with
 | .int i,.int j=>.ok (.int<|i+j) S
 | .tup xs,.tup ys=>gd (xs.length+ys.length<=sizeLine) (.ok (.tup<|xs++ys) S)
 | .str x,.str y=>gd (x.length+y.length<=sizeLine) (.ok (.str<|x++y) S)
 | .ref n,.ref m=>opt (iC S n) λxs=>opt (iC S m) λys=>gd (xs.length+ys.length<=sizeLine) (.ok (.ref S.length)<|S++[.lst<|xs++ys])
 | _,_=>.no
def AVs.nil_inv{K:aA}{H:Hp}(r:AVs K ρ H xs vs):xs=[] ↔ vs=[]:=by cases r<;>simp
def oS:l8 X (binaryOp .Add) (r2 X ow):=λpins s σ H x y v u Q I rx ry h9=>by
 x_go
 cases va with
 | int i=>
  cases vb with
  | int j=>exact Ob pins s σ H _ _ v u Q I rx ry ⟨i,j,rfl,rfl,h _ _ _ .refl R<|.int _⟩
  | _=>exact h.elim
 | str x=>
  cases vb with
  | str y=>
   obtain⟨hc,h⟩:=i9 h;exact Aw pins s σ H _ _ v u Q I rx ry ⟨x,y,rfl,rfl,hc,h _ _ _ .refl R<|.str _⟩
  | _=>exact h.elim
 | @tup p xs f h1 r1=>
  cases vb with
  | @tup q ys d h2 r2=>
   obtain⟨hc,h⟩:=i9 h;by_cases hv:f=[]
   ·have hx:=r1.nil_inv.mpr hv;subst hv hx;exact F9 pins s σ H _ _ v u Q I rx ry ⟨p,q,d,rfl,rfl,l7.of h1,l7.of h2,h _ _ _ .refl R<|.tup h2 r2⟩
   ·refine Kr pins s σ H _ _ v u Q I rx ry ⟨p,q,f,d,rfl,rfl,l7.of h1,l7.of h2,hv,by rw[<- r1.length,<- r2.length];exact hc,λe=>?_,λ_=>ue R (r1.append r2) .refl h⟩;have hy:=r2.nil_inv.mpr e;subst hy;rw[bI]at h;exact h _ _ _ .refl R<|.tup h1 r1
  | _=>exact h.elim
 | @ref p n hp=>
  cases vb with
  | @ref q m t=>
   gn_on;obtain⟨ys,hm,h⟩:=iK h;obtain⟨hc,h⟩:=i9 h;obtain⟨f,h1,h2⟩:=R.lst hp<|iP hn;obtain⟨d,k,g⟩:=R.lst t<|iP hm;exact OO pins s σ H _ _ v u Q I rx ry ⟨p,q,f,d,rfl,rfl,h1,k,by rw[<- h2.length,<- g.length];exact hc,kN R (h2.append g) .refl h⟩
  | _=>exact h.elim
 | _=>exact h.elim
abbrev A.ints:ae->Option (ag)
 | []=>some []
 | .int i::xs=>(A.ints xs).map (i::·)
 | _=>none
def N8{x:A}{bs:ag}(e:A.ints (x::xs)=some bs):∃b cs,x=.int b/\A.ints xs=some cs/\bs=b::cs:=by
 unfold A.ints at e;split at e
 ·rename_i z;cases z
 ·rename_i i ys z
  cases z
  obtain⟨cs,h1,h2⟩:=bu.mp e;exact⟨i,cs,rfl,h1,h2.symm⟩
 ·cases e
def oR{K:aA}{H:Hp}:∀{xs:ae}{vs:List V}{bs:ag},AVs K ρ H xs vs->A.ints xs=some bs->vs=bs.map V.int:=by
 intro xs
 induction xs with
 | nil=>
  intro vs bs h e
  cases h
  cases e
  rfl
 | cons x xs d=>
  intro vs bs h e;obtain⟨b,f,rfl,e1,rfl⟩:=N8 e
  cases h with
  | cons h t=>
   cases h
   rw[d t e1];rfl
abbrev EA (a b:A)(S:iH):R A:=match a,b with
 | .int i,.int j=>.ok (.bl<|decide<|i<j) S
 | _,_=>.no
def DF(J:X.A.units+64<cLine):l8 X (compareOp .Lt) (r2 X EA):=λpins s σ H x y v u Q I rx ry h9=>by
 x_go
 cases va with
 | int i=>
  cases vb with
  | int j=>exact P_ pins s σ H _ _ v u Q I rx ry ⟨i,j,rfl,rfl,h _ _ _ .refl R<|.bl _⟩
  | _=>exact h.elim
 | _=>exact h.elim
abbrev xZ (a b:A)(S:iH):R A:=match a,b with
 | .int i,.int j=>.ok (.bl<|decide<|i<=j) S
 | _,_=>.no
def xR:l8 X (compareOp .LtE) (r2 X xZ):=l8.imp Qv λx y H Q h9=>by
 x_go
 cases va<;>first|exact h.elim|(cases vb<;>first|exact h.elim|exact⟨_,_,rfl,rfl,h _ _ _ .refl R<|.bl _⟩)
abbrev MT (a b:A)(S:iH):R A:=match a,b with
 | .int i,.int j=>.ok (.bl<|decide<|j<i) S
 | _,_=>.no
def JG(J:X.A.units+64<cLine):l8 X (compareOp .Gt) (r2 X MT):=λpins s σ H x y v u Q I rx ry h9=>by
 x_go
 cases va with
 | int i=>
  cases vb with
  | int j=>exact O_ pins s σ H _ _ v u Q I rx ry ⟨i,j,rfl,rfl,h _ _ _ .refl R<|.bl _⟩
  | _=>exact h.elim
 | _=>exact h.elim
abbrev PZ (a b:A)(S:iH):R A:=match a,b with
 | .int i,.int j=>.ok (.bl<|decide<|j<=i) S
 | _,_=>.no
def O2:l8 X (compareOp .GtE) (r2 X PZ):=l8.imp Ph λx y H Q h9=>by
 x_go
 cases va<;>first|exact h.elim|(cases vb<;>first|exact h.elim|exact⟨_,_,rfl,rfl,h _ _ _ .refl R<|.bl _⟩)
abbrev LZ (J:Bool)(a b:A)(S:iH):R A:=match a,b with
 | .bl i,.bl j=>.ok (.bl<|if J then i != j else i == j) S
 | .non,.non=>.ok (.bl<|!J) S
 | .unb,.non=>.no
 | .exn _,.non=>.no
 | _,.non=>.ok (.bl J) S
 | _,_=>.no
abbrev LP (f:A->iH->R A)(c:Ex):Ex:=λτ S=>(c τ S).bind λa S1=>f a S1
abbrev DO (a:A)(S:iH):R A:=match a with
 | .int i=>.ok (.int<|-i) S
 | _=>.no
def O5:QZ X (unaryOp .USub) (r1 X DO):=λpins s σ H x v Q I rx h9=>by
 obtain⟨ρ,S,a,R,va,h⟩:=h9
 cases va with
 | int i=>exact Aa pins s σ H _ v Q I rx ⟨i,rfl,h _ _ _ .refl R<|.int _⟩
 | _=>exact h.elim
def Nd{f:A->iH->R A}{c:Ex}{H:Hp}{Q:VK}(h:tE X (LP f c) σ H Q):TM (r1 X f) (tE X c) σ H Q:=by
 kl_no;exact⟨ρ,S,τ,R,r,iE (iI h) .refl λa S1 h1 ρ1 H1 x e1 g d=>⟨ρ1,S1,a,g,d,iE h1 e1 λc S3 j=>j.ext e1⟩⟩
def AH{c:Ex}(h:AE X a c):AE X (.UnaryOp .USub a pos) (LP DO c):=PE.imp (FJ O5 h) λ_ _ _ q=>Nd q
abbrev o6 (a b:A)(S:iH):R A:=match a,b with
 | .tup xs,.int i=>opt (oY xs i) λx=>.ok x S
 | .frz xs,.int i=>opt (oY xs i) λx=>.ok x S
 | .ref n,.int i=>opt (iC S n) λxs=>opt (oY xs i) λx=>.ok x S
 | .str z,.int i=>gd (z.length<=sizeLine) (opt (oY z.cps.toList i) λc=>.ok (.str ⟨#[c]⟩) S)
 | _,_=>.no
def AVs.oY{K:aA}{H:Hp}{i:Int}{x:A}(r:AVs K ρ H xs vs)(h:L2.oY xs i=some x):∃v,L2.oY vs i=some v/\AV K ρ H x v:=by
 unfold L2.oY at h ⊢;rw[<- r.length]
 cases d:zL xs.length i with
 | none=>rw[d]at h;cases h
 | some j=>
  rw[d]at h;exact r.get h
def QA:LV X (r2 X o6):=λd f pins s σ H x y v u Q I rx ry ⟨ρ,S,a,b,R,va,vb,h⟩ hs=>by
 cases va with
 | @tup p xs g h1 r1=>
  cases vb with
  | int i=>
   obtain⟨x,hx,h⟩:=iK h;obtain⟨z,e,q⟩:=r1.oY hx;exact Ox d f pins s σ H _ _ v u Q I rx ry ⟨p,g,i,z,rfl,rfl,l7.of h1,e,h _ _ _ .refl R q⟩ hs
  | _=>exact h.elim
 | @frz p xs g h1 r1=>
  cases vb with
  | int i=>
   obtain⟨x,hx,h⟩:=iK h;obtain⟨z,e,q⟩:=r1.oY hx;exact BZ d f pins s σ H _ _ v u Q I rx ry ⟨p,g,i,z,rfl,rfl,h1.Kh,e,h _ _ _ .refl R q⟩ hs
  | _=>exact h.elim
 | @ref p n hp=>
  cases vb with
  | int i=>
   gn_on;obtain⟨x,hx,h⟩:=iK h;obtain⟨g,h1,r1⟩:=R.lst hp<|iP hn;obtain⟨z,e,q⟩:=r1.oY hx;exact BZ d f pins s σ H _ _ v u Q I rx ry ⟨p,g,i,z,rfl,rfl,j5.of h1,e,h _ _ _ .refl R q⟩ hs
  | _=>exact h.elim
 | str z=>
  cases vb with
  | int i=>
   obtain⟨j,h⟩:=i9 h;obtain⟨c,hc,h⟩:=iK h;exact Nu d f pins s σ H _ _ v u Q I rx ry ⟨z,i,c,rfl,rfl,j,hc,h _ _ _ .refl R<|.str _⟩ hs
  | _=>exact h.elim
 | _=>exact h.elim
def jI{ca cb:Ex}(j:AE X a ca)(hb:AE X b cb)(hs:uf b<|>θ):AE X (.Subscript a b pos) (iR o6 ca cb):=PE.imp (E5 QA j hb hs) λσ H Q h=>p_ h
end
abbrev vn (f:A->A->bn):ae->ae->bn
 | [],[]=>some true
 | x::xs,y::ys=>(f x y).bind λp=>(vn f xs ys).map λq=>p && q
 | _,_=>some false
inductive Sh
 | non
 | bl (b:Bool)
 | int (i:Int)
 | str (x:Str)
 | tup (xs:ae)
 | lst
abbrev N3 (S:iH):A->Option Sh
 | .non=>some .non
 | .bl b=>some (.bl b)
 | .int i=>some (.int i)
 | .str x=>some (.str x)
 | .tup xs=>some (.tup xs)
 | .ref i=>(iC S i).map λ_=>.lst
 | _=>none
abbrev Kz (f:A->A->bn):Sh->Sh->bn
 | .non,.non=>some true
 | .bl x,.bl y=>some (x == y)
 | .bl x,.int y=>some ((if x then 1 else 0) == y)
 | .int x,.bl y=>some (x == (if y then 1 else 0))
 | .int x,.int y=>some (x == y)
 | .str x,.str y=>some (x == y)
 | .tup xs,.tup ys=>vn f xs ys
 | .lst,.lst=>none
 | _,_=>some false
abbrev v_ (S:iH):Nat->A->A->bn
 | 0,_,_=>none
 | n+1,a,b=>match a,b with
  | .ref i,.ref j=>(iC S i).bind λxs=>(iC S j).bind λys=>vn (v_ S n) xs ys
  | _,_=>(N3 S a).bind λx=>(N3 S b).bind λy=>Kz (v_ S n) x y
section
variable {X:Cx}{pins:bt}{σ:L2.St}{H:Hp}{s:aE}{ρ:bd}{S:iH}
inductive KdV (s:aE):Sh->aa->Prop
 | non:KdV s .non .none
 | bl (b:Bool):KdV s (.bl b) (.bool b)
 | int (i:Int) (t:Tok):KdV s (.int i) (.int i t)
 | str (x:Str) (t:Tok):KdV s (.str x) (.str x t)
 | tup {p:aq} {us:ba} (xs:ae) (h:s.heap.IsTuple p us.toArray):KdV s (.tup xs) (.ref p)
 | lst {p:aq} {us:ba} (h:s.heap.IsList p us.toArray):KdV s .lst<|.ref p
def A7{p:aq}(h:s.heap.IsTuple p us)(h':s.heap.IsList p ws):False:=by
 obtain⟨o,e,c,_⟩:=h;obtain⟨o',d,f,_⟩:=h';rw[e]at d
 cases d
 exact absurd (c.symm.trans f) ⋯
def BA(I:Inv X pins σ H s)(R:Rel X.K ρ H S){a:A}{x:V}(j:AV X.K ρ H a x)(r:RelV x u)(e:N3 S a=some h):KdV s h u:=by
 cases j with
 | non=>cases e;cases(show u=Value.none from r);exact .non
 | bl b=>cases e;cases(show u=Value.bool b from r);exact .bl b
 | int i=>cases e;obtain⟨t,rfl⟩:∃t,u=Value.int i t:=r;exact .int i t
 | str i=>cases e;obtain⟨t,rfl⟩:∃t,u=Value.str i t:=r;exact .str i t
 | tup h1 r1=>cases e;cases(show u=Value.ref _ from r);obtain⟨us,_,p,_⟩:=I.tuple<|l7.of h1;exact .tup _ p
 | ref h1=>
  obtain⟨xs,e1,rfl⟩:=bu.mp e
  cases(show u=Value.ref _ from r)
  obtain⟨f,d,r1⟩:=R.lst h1<|iP e1;obtain⟨us,_,p,_⟩:=I.list<|j5.of d;exact .lst p.isList
 | _=>cases e
abbrev Al (B:aC)(s:aE)(u v:aa)(k:Bool):Prop:=SeqAt.RcAt B s u v k/\SeqAt.EqAt B s u v k/\SeqAt.RcNeAt B s u v (!k)
def Pd{B:aC}(J:B.units<cLine){f:A->A->bn}{v:aa}{k:Bool}(d:KdV s h u)(d':KdV s h' v)(L:∀xs ys,h=.tup xs->h'≠.tup ys)(e:Kz f h h'=some k):Al B s u v k:=by
 cases d with
 | non=>cases d' with
  | non=>cases e;exact⟨.none_none,.same _,.none_none⟩
  | bl b=>cases e;exact⟨.none_bool _,.none_bool _,.none_bool _⟩
  | int i t=>cases e;exact⟨.none_int _ _,.none_int _ _,.none_int _ _⟩
  | str x t=>cases e;exact⟨.none_str _ _,.none_str _ _,.none_str _ _⟩
  | tup xs p=>cases e;exact⟨.none_tuple p J,.none_tuple p J,.none_tuple p J⟩
  | lst p=>cases e;exact⟨.none_list p J,.none_list p J,.none_list p J⟩
 | bl c=>cases d' with
  | non=>cases e;exact⟨.bool_none _,.bool_none _,.bool_none _⟩
  | bl b=>cases e;exact⟨.bool_bool _ _,.bool_bool _ _,.bool_bool _ _⟩
  | int i t=>cases e;exact⟨.bool_int _ _ _,.bool_int _ _ _,.bool_int _ _ _⟩
  | str x t=>cases e;exact⟨.bool_str _ _ _,.bool_str _ _ _,.bool_str _ _ _⟩
  | tup xs p=>cases e;exact⟨.bool_tuple _ p J,.bool_tuple _ p J,.bool_tuple _ p J⟩
  | lst p=>cases e;exact⟨.bool_list _ p J,.bool_list _ p J,.bool_list _ p J⟩
 | int c j=>cases d' with
  | non=>cases e;exact⟨.int_none _ _,.int_none _ _,.int_none _ _⟩
  | bl b=>cases e;exact⟨.int_bool _ _ _,.int_bool _ _ _,.int_bool _ _ _⟩
  | int i t=>cases e;exact⟨.int_int _ _ _ _,.int_int _ _ _ _,.int_int _ _ _ _⟩
  | str x t=>cases e;exact⟨.int_str _ _ _ _,.int_str _ _ _ _,.int_str _ _ _ _⟩
  | tup xs p=>cases e;exact⟨.int_tuple _ _ p J,.int_tuple _ _ p J,.int_tuple _ _ p J⟩
  | lst p=>cases e;exact⟨.int_list _ _ p J,.int_list _ _ p J,.int_list _ _ p J⟩
 | str c j=>cases d' with
  | non=>cases e;exact⟨.str_none _ _,.str_none _ _,.str_none _ _⟩
  | bl b=>cases e;exact⟨.str_bool _ _ _,.str_bool _ _ _,.str_bool _ _ _⟩
  | int i t=>cases e;exact⟨.str_int _ _ _ _,.str_int _ _ _ _,.str_int _ _ _ _⟩
  | str x t=>cases e;exact⟨.str_str _ _ _ _,.str_str _ _ _ _,.str_str _ _ _ _⟩
  | tup xs p=>cases e;exact⟨.str_tuple _ _ p J,.str_tuple _ _ p J,.str_tuple _ _ p J⟩
  | lst p=>cases e;exact⟨.str_list _ _ p J,.str_list _ _ p J,.str_list _ _ p J⟩
 | tup zs g=>cases d' with
  | non=>cases e;exact⟨.tuple_none g J,.tuple_none g J,.tuple_none g J⟩
  | bl b=>cases e;exact⟨.tuple_bool _ g J,.tuple_bool _ g J,.tuple_bool _ g J⟩
  | int i t=>cases e;exact⟨.tuple_int _ _ g J,.tuple_int _ _ g J,.tuple_int _ _ g J⟩
  | str x t=>cases e;exact⟨.tuple_str _ _ g J,.tuple_str _ _ g J,.tuple_str _ _ g J⟩
  | tup xs p=>exact absurd rfl (L _ _ rfl)
  | lst p=>cases e;exact⟨.tuple_list g p J,.of_refs (λz=>by subst z;exact A7 g p)<|.tuple_list g p J,.tuple_list g p J⟩
 | lst g=>cases d' with
  | non=>cases e;exact⟨.list_none g J,.list_none g J,.list_none g J⟩
  | bl b=>cases e;exact⟨.list_bool _ g J,.list_bool _ g J,.list_bool _ g J⟩
  | int i t=>cases e;exact⟨.list_int _ _ g J,.list_int _ _ g J,.list_int _ _ g J⟩
  | str x t=>cases e;exact⟨.list_str _ _ g J,.list_str _ _ g J,.list_str _ _ g J⟩
  | tup xs p=>cases e;exact⟨.list_tuple g p J,.of_refs (λz=>by subst z;exact A7 p g)<|.list_tuple g p J,.list_tuple g p J⟩
  | lst p=>cases e
def wI{a:A}{x:V}(h:AV X.K ρ H a x)(e:N3 S a=some (.tup xs)):a=.tup xs/\∃p vs,x=.ref p/\H p=some (.tup vs)/\AVs X.K ρ H xs vs:=by
 cases h with
 | tup h r=>cases e;exact⟨rfl,_,_,rfl,h,r⟩
 | ref h=>obtain⟨_,_,z⟩:=bu.mp e;cases z
 | _=>cases e
def xG{i:Nat}{x:V}(h:AV X.K ρ H (.ref i) x):∃p,x=.ref p/\ρ[i]?=some p:=by
 cases h with
 | ref h=>exact⟨_,rfl,h⟩
def Fp{a:A}(e:N3 S a=some .lst):∃i,a=.ref i:=by
 cases a with
 | ref i=>exact⟨i,rfl⟩
 | _=>cases e
def Gf{n:Nat}{a:A}{k:Bool}(e:v_ S (n+1) a b=some k):(∃i j xs ys,a=.ref i/\b=.ref j/\iC S i=some xs/\iC S j=some ys/\vn (v_ S n) xs ys=some k)\/(∃h h',N3 S a=some h/\N3 S b=some h'/\Kz (v_ S n) h h'=some k/\(h=.lst->h'≠.lst)):=by
 unfold v_ at e;split at e
 ·obtain⟨xs,e1,e⟩:=bR.mp e;obtain⟨ys,e2,e⟩:=bR.mp e;exact .inl ⟨_,_,xs,ys,rfl,rfl,e1,e2,e⟩
 ·rename_i g;obtain⟨h,e1,e⟩:=bR.mp e;obtain⟨h',e2,e⟩:=bR.mp e;refine .inr ⟨h,h',e1,e2,e,λf d=>?_⟩;subst f d;obtain⟨i,rfl⟩:=Fp e1;obtain⟨j,rfl⟩:=Fp e2;exact g i j rfl rfl
def JY{f:A->A->bn}{k:Bool}(d:KdV s h u)(d':KdV s h' u)(j:∀xs ys,h=.tup xs->h'≠.tup ys)(e:Kz f h h'=some k):k=true:=by
 cases d with
 | non=>cases d';exact(aW e).symm
 | bl b=>cases d';exact(aW e).symm.trans (cD b)
 | int b=>cases d';exact(aW e).symm.trans (cD b)
 | str b=>cases d';exact(aW e).symm.trans (cD b)
 | tup xs p=>cases d' with
  | tup=>exact absurd rfl (j _ _ rfl)
  | lst q=>exact(A7 p q).elim
 | lst p=>cases d' with
  | tup _ q=>exact(A7 q p).elim
  | lst q=>cases e
def yl{f:A->A->bn}(hf:∀a b x u k,AV X.K ρ H a x->AV X.K ρ H b x->RelV x u->f a b=some k->k=true):∀{xs ys:ae}{vs:List V}{us:ba}{k:Bool},AVs X.K ρ H xs vs->AVs X.K ρ H ys vs->Vals vs us->vn f xs ys=some k->k=true:=by
 intro xs ys vs us k h1 h2 q e
 induction q generalizing xs ys k with
 | nil=>cases h1;cases h2;exact(aW e).symm
 | cons j _ m=>
  cases h1 with
  | cons h t=>cases h2 with
   | cons h' g=>
    obtain⟨p,e1,e⟩:=bR.mp e;obtain⟨q,e2,d⟩:=bu.mp e;rw[<- d,hf _ _ _ _ p h h' j e1,m t g e2];rfl
def Cm(h h':Sh):(∃xs ys,h=.tup xs/\h'=.tup ys)\/(∀xs ys,h=.tup xs->h'≠.tup ys):=by
 cases h with
 | tup xs=>cases h' with
  | tup ys=>exact .inl ⟨xs,ys,rfl,rfl⟩
  | _=>exact .inr λ_ _ _ z=>nomatch z
 | _=>exact .inr λ_ _ z=>nomatch z
theorem w4(I:Inv X pins σ H s)(R:Rel X.K ρ H S):∀(n:Nat) (a b:A) (x:V) (u:aa) (k:Bool),AV X.K ρ H a x->AV X.K ρ H b x->RelV x u->v_ S n a b=some k->k=true
 | 0,_,_,_,_,_,_,_,_,e=>nomatch e
 | n+1,a,b,x,u,k,ha,hb,ru,e=>by
  rcases Gf e with⟨i,j,xs,ys,rfl,rfl,e1,e2,e⟩|⟨h,h',e1,e2,e,_⟩
  ·obtain⟨p,rfl,h1⟩:=xG ha;obtain⟨q,z,h2⟩:=xG hb
   cases z
   obtain⟨t,d,r1⟩:=R.lst h1<|iP e1;obtain⟨m,f,r2⟩:=R.lst h2<|iP e2;rw[d]at f
   cases f
   obtain⟨us,q,_⟩:=I.list<|j5.of d;exact yl (λa b x u k=>w4 I R n a b x u k) r1 r2 q e
  ·rcases Cm h h' with⟨xs,ys,rfl,rfl⟩|g
   ·obtain⟨rfl,p,t,rfl,d,r1⟩:=wI ha e1;obtain⟨rfl,q,m,z,f,r2⟩:=wI hb e2
    cases z
    have:=I.wo (l7.of d)<|l7.of f;subst this;obtain⟨us,q,_⟩:=I.tuple<|l7.of d;exact yl (λa b x u k=>w4 I R n a b x u k) r1 r2 q e
   ·exact JY (BA I R ha ru e1) (BA I R hb ru e2) g e
abbrev vE (f:A->A->bn)(xs ys:ae)(j:Nat):Bool:=match xs[j]?,ys[j]? with
 | some x,some y=>(f x y).getD true
 | _,_=>true
theorem ug{f:A->A->bn}:∀{xs ys:ae}{k:Bool},vn f xs ys=some k->k=((List.range<|min xs.length ys.length).all (vE f xs ys) && xs.length == ys.length)/\∀j x y,xs[j]?=some x->ys[j]?=some y->f x y=some (vE f xs ys j)
 | [],[],k,e=>⟨(aW e).symm,λj x y h=>by simp at h⟩
 | [],_::_,k,e=>⟨(aW e).symm,λj x y h=>by simp at h⟩
 | _::_,[],k,e=>⟨(aW e).symm,λj x y _ h=>by simp at h⟩
 | x::xs,y::ys,k,e=>by
  unfold vn at e
  cases e1:f x y with
  | none=>rw[e1]at e;cases e
  | some p=>
   rw[e1]at e;obtain⟨q,e2,m⟩:=bu.mp e;obtain⟨h1,h2⟩:=ug e2;have g:vE f (x::xs) (y::ys) 0=p:=by simp[vE,e1]
   have ps:∀j,vE f (x::xs) (y::ys) (j+1)=vE f xs ys j:=λj=>by simp[vE]
   refine⟨?_,λj a b d hb=>?_⟩
   ·rw[<- m,h1,bw,bw,Nat.succ_min_succ,List.range_succ_eq_map,all_cons,List.all_map,g];have:(vE f (x::xs) (y::ys) ∘ Nat.succ)=vE f xs ys:=funext ps;rw[this,Bool.and_assoc];simp
   ·cases j with
    | zero=>
     simp at d hb;subst d hb;rw[g];exact e1
    | succ j=>rw[ps];exact h2 j a b (by simpa using d)<|by simpa using hb
def uh{f:A->A->bn}(hf:∀a b x y u v k,AV X.K ρ H a x->AV X.K ρ H b y->RelV x u->RelV y v->f a b=some k->SeqAt.EqAt B s u v k){us ts:ba}{k:Bool}
  (r1:AVs X.K ρ H xs vs) (r2:AVs X.K ρ H ys ws) (U:Vals vs us) (Z:Vals ws ts) (e:vn f xs ys=some k):∀j (h1:j<us.toArray.size) (h2:j<ts.toArray.size),SeqAt.EqAt B s us.toArray[j] ts.toArray[j] (vE f xs ys j):=by
 intro j h1 h2;have L:=r1.length;have O:=r2.length;have N:=U.length;have M:=Z.length;have hx:j<xs.length:=by simp at h1;lia
 have hy:j<ys.length:=by simp at h2;lia
 have e1:xs[j]?=some xs[j]:=aH hx;have e2:ys[j]?=some ys[j]:=aH hy;obtain⟨x,ex,g⟩:=r1.get e1;obtain⟨y,F,G⟩:=r2.get e2;obtain⟨u,d,C⟩:=U.get ex;obtain⟨t,J,rt⟩:=Z.get F;have z:us.toArray[j]=u:=by
  have:us[j]?=some us.toArray[j]:=by simp at h1;simp[h1]
  rw[d]at this;exact(aW this).symm
 have m:ts.toArray[j]=t:=by
  have:ts[j]?=some ts.toArray[j]:=by simp at h2;simp[h2]
  rw[J]at this;exact(aW this).symm
 rw[z,m];exact hf _ _ x y u t _ g G C rt<|(ug e).2 j _ _ e1 e2
def in1_units(B:aC):B.in1.units=B.units+1:=rfl
theorem AU(I:Inv X pins σ H s)(R:Rel X.K ρ H S):∀(n:Nat) (B:aC) (a b:A) (x y:V) (u v:aa) (k:Bool),B.units+n<cLine->AV X.K ρ H a x->AV X.K ρ H b y->RelV x u->RelV y v->v_ S n a b=some k->Al B s u v k
 | 0,_,_,_,_,_,_,_,_,_,_,_,_,_,e=>nomatch e
 | n+1,B,a,b,x,y,u,v,k,hu,ha,hb,rx,ry,e=>by
  have f:B.units<cLine:=()
  have d:∀a b x y u v k,AV X.K ρ H a x->AV X.K ρ H b y->RelV x u->RelV y v->v_ S n a b=some k->SeqAt.EqAt B.in1 s u v k:=λa b x y u v k h1 h2 L G U=>(AU I R n B.in1 a b x y u v k (by rw[in1_units];lia) h1 h2 L G U).2.1;have same:=λ(z:y=x)=>w4 I R (n+1) a b x u k ha (z ▸ hb) rx e;have m:∀{p q:aq},x=.ref p->y=.ref q->u=.ref p->v=.ref q->SeqAt.RcAt B s u v k->SeqAt.EqAt B s u v k:=λ{p q} g F z3 z4 h=>by
   subst z3 z4;by_cases hp:p=q
   ·subst hp;rw[same<|F.trans g.symm];exact .same _
   ·exact .of_refs hp h
  rcases Gf e with⟨i,j,xs,ys,rfl,rfl,e1,e2,e⟩|⟨h,h',e1,e2,e,_⟩
  ·obtain⟨p,rfl,h1⟩:=xG ha;obtain⟨q,rfl,h2⟩:=xG hb;obtain⟨W,L,r1⟩:=R.lst h1<|iP e1;obtain⟨P,G,r2⟩:=R.lst h2<|iP e2;obtain⟨us,C,p1,_⟩:=I.list<|j5.of L;obtain⟨ts,t,p2,_⟩:=I.list<|j5.of G;have M:=m rfl rfl rx ry
   cases(show u=Value.ref p from rx)
   cases(show v=Value.ref q from ry)
   have Y:=r1.length;have l2:=r2.length;have Z:=C.length;have l4:=t.length;have ek:=(ug e).1;by_cases N:xs.length=ys.length
   ·rw[<- N,Nat.min_self,cD,Bool.and_true]at ek;have J:us.toArray.size=ts.toArray.size:=by simp;lia
    have g:=SeqAt.RcAt.lists p1.isList p2.isList J f<|uh d r1 r2 C t e;have F:=SeqAt.RcNeAt.lists p1.isList p2.isList J f<|uh d r1 r2 C t e;rw[aX,<- Z,<- Y,<- ek]at g F;exact⟨g,M g,F⟩
   ·have:(xs.length == ys.length)=false:=by simpa using N
    rw[this,Bool.and_false]at ek;subst ek;have J:(us.toArray.size != ts.toArray.size)=true:=by simp;lia
    have g:=SeqAt.RcAt.lists_lengths p1.isList p2.isList J f;exact⟨g,M g,SeqAt.RcNeAt.lists_lengths p1.isList p2.isList J f⟩
  ·rcases Cm h h' with⟨xs,ys,rfl,rfl⟩|O
   ·obtain⟨rfl,p,W,rfl,L,r1⟩:=wI ha e1;obtain⟨rfl,q,P,rfl,G,r2⟩:=wI hb e2;have M:=m rfl rfl rx ry
    cases(show u=Value.ref p from rx)
    cases(show v=Value.ref q from ry)
    obtain⟨us,C,p1,_⟩:=I.tuple<|l7.of L;obtain⟨ts,t,p2,_⟩:=I.tuple<|l7.of G;have ek:=(ug e).1;have g:=SeqAt.RcAt.tuples p1 p2 f<|uh d r1 r2 C t e;have F:=SeqAt.RcNeAt.tuples p1 p2 f<|uh d r1 r2 C t e;rw[aX,aX,<- C.length,<- t.length,<- r1.length,<- r2.length,<- ek]at g F;exact⟨g,M g,F⟩
   ·exact Pd f (BA I R ha rx e1) (BA I R hb ry e2) O e
end
section
variable {X:Cx}
abbrev uv (j:Bool)(a b:A)(S:iH):R A:=opt (v_ S 12 a b) λk=>.ok (.bl<|if j then !k else k) S
def Dt(j:X.A.units+64<cLine):l8 X (compareOp .Eq) (r2 X<|uv false):=λpins s σ H x y v u Q I rx ry h9=>by
 x_go;obtain⟨k,e,h⟩:=iK h;exact(AU I R 12 X.A a b x y v u k (by omega) va vb rx ry e).1 _ _ _ _ ⟨.bl _,H,I,rfl,h _ _ _ .refl R<|.bl _⟩
def IT(j:X.A.units+64<cLine):l8 X (compareOp .NotEq) (r2 X<|uv true):=λpins s σ H x y v u Q I rx ry h9=>by
 x_go;obtain⟨k,e,h⟩:=iK h;exact(AU I R 12 X.A a b x y v u k (by omega) va vb rx ry e).2.2 _ _ _ _ ⟨.bl _,H,I,rfl,h _ _ _ .refl R<|.bl _⟩
end
section
variable {X:Cx}{pos:Pos}{a b:aF}
meta abbrev Pt:=ae->iH->R (bj)
abbrev zF:Pt:=λ_ S=>.ok none S
abbrev yD (c:Ex):Pt:=λτ S=>(c τ S).bind λa S1=>match a with
 | .int i=>.ok (some i) S1
 | _=>.no
abbrev tO (X:Cx)(c:Pt):TO:=λσ H Q=>∃ρ S τ,Rel X.K ρ H S/\SR X.K ρ H τ σ/\(c τ S).post (λo d=>∀ρ' H',Ext ρ ρ' H H'->Rel X.K ρ' H' d->Q o H') (XE X ρ H)
abbrev AO (X:Cx)(e:Option aF)(c:Pt):Prop:=PO X e<|tO X c
def wX:AO X none zF:=λpins s σ H Q I ⟨ρ,S,τ,R,r,h⟩=>KS pins s σ H Q I<|h ρ H .refl R
def xE{c:Ex}(j:AE X a c):AO X (some a) (yD c):=λpins s σ H Q I ⟨ρ,S,τ,R,r,h⟩=>JQ j pins s σ H Q I ⟨ρ,S,τ,R,r,iE (iI h) .refl λx S1 h1 ρ1 H1 v e1 d f=>by
 cases f<;>first|exact h1.elim|exact⟨_,rfl,h1 ρ1 H1 e1 d⟩⟩
abbrev yj (xs:ae)(lo hi:bj):ae:=(xs.drop<|HT.kW xs.length 0 lo).take<|HT.kW xs.length xs.length hi-HT.kW xs.length 0 lo
def AVs.cut{K:aA}{H:Hp}(r:AVs K ρ H xs vs)(lo hi:bj):AVs K ρ H (yj xs lo hi) (x_ vs lo hi):=by
 unfold yj x_;rw[r.length];exact(r.drop _).take _
abbrev OP (a:A)(lo hi:bj)(S:iH):R A:=match a with
 | .ref n=>opt (iC S n) λxs=>.ok (.ref S.length) (S++[.lst<|yj xs lo hi])
 | .frz xs=>.ok (.ref S.length) (S++[.lst<|yj xs lo hi])
 | .tup xs=>gd (¬(HT.kW xs.length 0 lo=0/\HT.kW xs.length xs.length hi=xs.length)) (.ok (.tup<|yj xs lo hi) S)
 | _=>.no
abbrev O8 (c:Ex)(lo hi:Pt):Ex:=λτ S=>(c τ S).bind λa S1=>(lo τ S1).bind λl S2=>(hi τ S2).bind λu S3=>OP a l u S3
abbrev rS (X:Cx):V->bj->bj->Hp->VK->Prop:=λx lo hi H Q=>∃ρ S a,Rel X.K ρ H S/\AV X.K ρ H a x/\(OP a lo hi S).post (tY X ρ H Q) (XE X ρ H)
def OD:QU X (rS X):=λpins s σ H x v vl f lo hi g Q I rx hs j k h9=>by
 obtain⟨ρ,S,a,R,va,h⟩:=h9
 cases va with
 | @tup p xs d h1 r1=>
  obtain⟨hc,h⟩:=i9 h;exact Nt pins s σ H _ v vl f lo hi g Q I rx hs j k ⟨p,d,rfl,(l7.of h1),by rw[<- r1.length];exact hc,ue R (r1.cut lo hi) .refl h⟩
 | @frz p xs d h1 r1=>exact CN pins s σ H _ v vl f lo hi g Q I rx hs j k ⟨p,d,rfl,h1.Kh,kN R (r1.cut lo hi) .refl h⟩
 | @ref p n hp=>
  gn_on;obtain⟨d,h1,r1⟩:=R.lst hp<|iP hn;exact CN pins s σ H _ v vl f lo hi g Q I rx hs j k ⟨p,d,rfl,j5.of h1,kN R (r1.cut lo hi) .refl h⟩
 | _=>exact h.elim
def I_{lo hi:Option aF}{c:Ex}{J ch:Pt}(L:AE X e c)(M:AO X lo J)(hh:AO X hi ch):AE X (.Subscript e (.Slice lo hi none p2) pos) (O8 c J ch):=PE.imp (Im OD L M hh) λσ H Q h9=>by
 z_go;refine⟨ρ,S,τ,R,r,iE (iI h) .refl λa S1 h1 ρ1 H1 x e1 g k=>⟨ρ1,S1,τ,g,r.ext e1,iE (iI h1) e1 λl S2 h2 d H2 e2 R2=>⟨d,S2,τ,R2,r.ext<|e1.trans e2,iE (iI h2) (e1.trans e2) λu S3 m ρ3 t f j=>?_⟩⟩⟩;exact⟨ρ3,S3,a,j,k.ext<|e2.trans f,iE m (e1.trans<|e2.trans f) λ_ _ z=>z.ext<|e1.trans<|e2.trans f⟩
abbrev FZ (a:A)(S:iH):R A:=match a with
 | .ref n=>opt (iC S n) λxs=>.ok (.ref S.length) (S++[.lst xs.reverse])
 | .tup xs=>.ok (.tup xs.reverse) S
 | _=>.no
def N7{up cp:Pos}{c:Ex}(j:AE X e c):AE X (.Subscript e (.Slice none none (some<|.UnaryOp .USub (.Constant (.int 1) kk cp) up) p2) pos) (LP FZ c):=λpins s σ H Q I h9=>by
 z_go;have hb:=iI h
 cases hc:c τ S with
 | no=>rw[hc]at hb;exact hb.elim
 | ex x S1=>
  rw[hc]at hb;exact C8 j pins s σ H Q I ⟨ρ,S,τ,R,r,by rw[hc];exact hb⟩
 | ok a S1=>
  rw[hc]at hb;have hb:(FZ a S1).post (tY X ρ H Q) (XE X ρ H):=hb
  cases a with
  | tup xs=>
   refine C8 j pins s σ H Q I ⟨ρ,S,τ,R,r,?_⟩;rw[hc];intro ρ1 H1 x e1 d f
   cases f with
   | tup h1 r1=>exact⟨_,_,rfl,(l7.of h1),ue d r1.reverse e1 hb⟩
  | ref n=>
   refine K3 j pins s σ H Q I ⟨ρ,S,τ,R,r,?_⟩;rw[hc];intro ρ1 H1 x e1 d f;obtain⟨xs,hn,h⟩:=iK hb
   cases f with
   | ref hp=>
    obtain⟨g,h1,r1⟩:=d.lst hp<|iP hn;exact⟨_,_,rfl,j5.of h1,kN d r1.reverse e1 h⟩
  | _=>exact hb.elim
abbrev iY (f:ae->iH->R A)(d:n8):Ex:=λτ S=>(d τ S).bind λg S1=>f g S1
def yq{f:ae->iH->R A}{d:n8}{H:Hp}{Q:VK}(h:tE X (iY f d) σ H Q):SE (rN X f) (tL X d) σ H Q:=by
 kl_no;exact⟨ρ,S,τ,R,r,iE (iI h) .refl λk S1 h1 ρ1 H1 m e1 j g=>⟨ρ1,S1,k,j,g,iE h1 e1 λ_ _ z=>z.ext e1⟩⟩
variable {x:Str}{p:Pos}{e:aF}{es:List aF}{id T:String}{f:ae->iH->R A}{d:n8}
def iS(hc:jj X (.builtin id)<|rN X f)(hm:X.mg x=none)(hv:bootBuiltins x=some (.builtin id))(L:AL X (e::es) d)(hg:Gl X x<|>ε)(hn:x ≠ "__name__"<|>δ)(j:(x == ("__debug__" : Str))=false<|>δ)
  (M:starEach (e::es) X.env=(false,eval e X.env)::starEach es X.env<|>ε) (J:((backTo pos<|starEach es X.env).any (·.1)=false)<|>ε):AE X (.Call (.Name x p) (e::es) [] pos) (iY f d):=
 PE.imp (Gg hc hg hm hv L hn j M J) λ_ _ _ h=>yq h
def p6(hc:jj X (.type T)<|rN X f)(hm:X.mg x=none)(hv:bootBuiltins x=some (.type T))(L:AL X (e::es) d)(hg:Gl X x<|>ε)(hn:x ≠ "__name__"<|>δ)(j:(x == ("__debug__" : Str))=false<|>δ)
  (M:starEach (e::es) X.env=(false,eval e X.env)::starEach es X.env<|>ε) (J:((backTo pos<|starEach es X.env).any (·.1)=false)<|>ε):AE X (.Call (.Name x p) (e::es) [] pos) (iY f d):=
 PE.imp (Dy hc hg hm hv L hn j M J) λ_ _ _ h=>yq h
def CA(hm:X.mg x=none)(hv:bootBuiltins x=some (.type T))(hg:Gl X x<|>ε)(hn:x ≠ "__name__"<|>δ)(j:(x == ("__debug__" : Str))=false<|>δ):AE X (.Name x pos) (eC<|.ty T):=
 PE.imp (JO (v:=.ty T) hg hm hv rfl hn j) λσ H Q ⟨ρ,S,τ,R,r,h⟩=>h ρ H _ .refl R<|.ty T
abbrev A.seq (S:iH):A->Option (ae)
 | .tup xs=>some xs
 | .frz xs=>some xs
 | .ref n=>iC S n
 | _=>none
def II{K:aA}{H:Hp}{x:A}{v:V}(R:Rel K ρ H S)(h:AV K ρ H x v)(e:x.seq S=some xs):∃p vs,v=.ref p/\(j5 K H p vs\/l7 K H p vs)/\AVs K ρ H xs vs:=by
 cases h with
 | tup h r=>cases aW e;exact⟨_,_,rfl,.inr<|l7.of h,r⟩
 | frz h r=>cases aW e;exact⟨_,_,rfl,.inl h.Kh,r⟩
 | ref h=>
  obtain⟨vs,h1,r1⟩:=R.lst h<|iP e;exact⟨_,vs,rfl,.inl<|j5.of h1,r1⟩
 | _=>cases e
def Oj{K:aA}{H:Hp}{x:A}(h:AVs K ρ H [x] vs):∃v,vs=[v]/\AV K ρ H x v:=by
 cases h with
 | cons h t=>cases t;exact⟨_,rfl,h⟩
def P1{K:aA}{H:Hp}{x:A}(h:AVs K ρ H [x,y] vs):∃v w,vs=[v,w]/\AV K ρ H x v/\AV K ρ H y w:=by
 cases h with
 | cons h t=>obtain⟨w,rfl,h'⟩:=Oj t;exact⟨_,_,rfl,h,h'⟩
abbrev f1 (g:A->iH->R A):ae->iH->R A:=λd S=>match d with
 | [x]=>g x S
 | _=>.no
abbrev f2 (g:A->A->iH->R A):ae->iH->R A:=λd S=>match d with
 | [x,y]=>g x y S
 | _=>.no
def K8{g:A->iH->R A}{P:A->iH->Prop}{E:Str->iH->Prop}(h:(f1 g as S).post P E):∃x,as=[x]/\(g x S).post P E:=by
 match as,h with
 | [],h=>exact h.elim
 | [x],h=>exact⟨x,rfl,h⟩
 | _::_::_,h=>exact h.elim
def Jr{g:A->A->iH->R A}{P:A->iH->Prop}{E:Str->iH->Prop}(h:(f2 g as S).post P E):∃x y,as=[x,y]/\(g x y S).post P E:=by
 match as,h with
 | [],h=>exact h.elim
 | [_],h=>exact h.elim
 | [x,y],h=>exact⟨x,y,rfl,h⟩
 | _::_::_::_,h=>exact h.elim
def Mw{g:A->iH->R A}{H:Hp}{Q:VK}(h:rN X (f1 g) vs H Q):∃v,vs=[v]/\∃ρ S x,Rel X.K ρ H S/\AV X.K ρ H x v/\(g x S).post (tY X ρ H Q) (XE X ρ H):=by
 obtain⟨ρ,S,d,R,v,h⟩:=h;obtain⟨x,rfl,h⟩:=K8 h;obtain⟨w,rfl,hv⟩:=Oj v;exact⟨w,rfl,ρ,S,x,R,hv,h⟩
def Q3{g:A->A->iH->R A}{H:Hp}{Q:VK}(h:rN X (f2 g) vs H Q):∃v w,vs=[v,w]/\∃ρ S x y,Rel X.K ρ H S/\AV X.K ρ H x v/\AV X.K ρ H y w/\(g x y S).post (tY X ρ H Q) (XE X ρ H):=by
 obtain⟨ρ,S,j,R,v,h⟩:=h;obtain⟨x,y,rfl,h⟩:=Jr h;obtain⟨w,f,rfl,hv,d⟩:=P1 v;exact⟨w,f,rfl,ρ,S,x,y,R,hv,d,h⟩
abbrev kX (x:A)(S:iH):R A:=match x with
 | .str x=>gd (x.length<=sizeLine) (.ok (.int x.length) S)
 | .tup xs=>.ok (.int xs.length) S
 | .frz xs=>.ok (.int xs.length) S
 | .ref n=>opt (iC S n) λxs=>.ok (.int xs.length) S
 | _=>.no
def kY:jj X (.builtin "len") (rN X<|f1 kX):=jj.imp Iq λf H Q h0=>by
 kcf_m;clear h0
 cases hv with
 | str z=>
  obtain⟨d,h⟩:=i9 h;exact⟨_,_,rfl,⟨d,rfl⟩,h _ _ _ .refl R<|.int _⟩
 | @tup p xs us h1 r=>exact⟨_,us.length,rfl,.inr ⟨us,(l7.of h1),rfl⟩,by rw[<- r.length];exact h _ _ _ .refl R<|.int _⟩
 | @frz p xs us h1 r=>exact⟨_,us.length,rfl,.inl ⟨us,h1.Kh,rfl⟩,by rw[<- r.length];exact h _ _ _ .refl R<|.int _⟩
 | ref hp=>
  gn_on;obtain⟨us,h1,r⟩:=R.lst hp<|iP hn;exact⟨_,us.length,rfl,.inl ⟨us,j5.of h1,rfl⟩,by rw[<- r.length];exact h _ _ _ .refl R<|.int _⟩
 | _=>exact h.elim
abbrev Ss (x:A)(S:iH):R A:=match x with
 | .int i=>.ok (.int<|if i<0 then -i else i) S
 | _=>.no
abbrev Bw (x y:A)(S:iH):R A:=match x,y with
 | .int i,.int j=>.ok (.int<|if j>i then j else i) S
 | _,_=>.no
def Iz(hc:X.calm=true):jj X (.builtin "max") (rN X<|f2 Bw):=jj.imp (D8 hc) λg H Q h0=>by
 obtain⟨w,f,rfl,ρ,S,x,y,R,hv,d,h⟩:=Q3 h0;clear h0
 cases hv<;>first|exact h.elim|(cases d<;>first|exact h.elim|exact⟨_,_,rfl,h _ _ _ .refl R<|.int _⟩)
abbrev HN (x y:A)(S:iH):R A:=match x,y with
 | .int i,.int j=>.ok (.int<|if j<i then j else i) S
 | _,_=>.no
def MQ(hc:X.calm=true):jj X (.builtin "min") (rN X<|f2 HN):=jj.imp (Ed hc) λg H Q h0=>by
 obtain⟨w,f,rfl,ρ,S,x,y,R,hv,d,h⟩:=Q3 h0;clear h0
 cases hv<;>first|exact h.elim|(cases d<;>first|exact h.elim|exact⟨_,_,rfl,h _ _ _ .refl R<|.int _⟩)
abbrev LX (x:A)(S:iH):R A:=match x with
 | .int i=>.ok (.int i) S
 | .bl k=>.ok (.int<|if k then 1 else 0) S
 | .str y=>opt (PySem.intText? y) λn=>gd (y.length<=640) (.ok (.int n) S)
 | _=>.no
abbrev wL (x y:A)(S:iH):R A:=match x,y with
 | .int i,.int j=>.ok (.rng i j) S
 | _,_=>.no
def ES:jj X (.type "range") (rN X<|f2 wL):=jj.imp xF λk H Q h0=>by
 obtain⟨w,g,rfl,ρ,S,x,y,R,hv,d,h⟩:=Q3 h0;clear h0
 cases hv with
 | int i=>
  cases d with
  | int j=>
   refine⟨i,j,rfl,λp hp=>?_⟩;obtain⟨ex,f⟩:=R.im (u:=.rng i j) hp;exact h ρ _ _ ex f<|.rng i7
  | _=>exact h.elim
 | _=>exact h.elim
abbrev wu (i j:Int):Prop:=(-(2 ^ 62)<=i/\i<2 ^ 62/\-(2 ^ 62)<=j/\j<2 ^ 62)/\(j-i).toNat<=1000
instance (i j:Int):Decidable (wu i j):=by unfold wu;infer_instance
abbrev pB (x:A)(S:iH):R A:=match x with
 | .rng i j=>gd (wu i j) (.ok (.ref S.length)<|S++[.lst<|(jZ i j).map .int])
 | .tup xs=>.ok (.ref S.length) (S++[.lst xs])
 | .frz xs=>.ok (.ref S.length) (S++[.lst xs])
 | .ref n=>opt (iC S n) λxs=>.ok (.ref S.length) (S++[.lst xs])
 | _=>.no
def Az(hc:X.calm=true):jj X (.type "list") (rN X<|f1 pB):=λpins s σ H d us Q I rx h0=>by
 kcf_m;clear h0
 cases hv with
 | @rng p i j hp=>
  obtain⟨f,h⟩:=i9 h;exact vL hc pins s σ H _ us Q I rx ⟨p,i,j,rfl,hp,f.1,f.2,kN R (pN _) .refl h⟩
 | @tup p xs d h1 r=>exact oG pins s σ H _ us Q I rx ⟨p,d,rfl,.inr<|l7.of h1,kN R r .refl h⟩
 | @frz p xs d h1 r=>exact oG pins s σ H _ us Q I rx ⟨p,d,rfl,.inl h1.Kh,kN R r .refl h⟩
 | @ref p n hp=>
  gn_on;obtain⟨d,h1,r⟩:=R.lst hp<|iP hn;exact oG pins s σ H _ us Q I rx ⟨p,d,rfl,.inl<|j5.of h1,kN R r .refl h⟩
 | _=>exact h.elim
abbrev GX (x:A)(S:iH):R A:=match x with
 | .rng i j=>gd (wu i j) (.ok (.tup<|(jZ i j).map .int) S)
 | .tup xs=>.ok (.tup xs) S
 | .frz xs=>.ok (.tup xs) S
 | .ref n=>opt (iC S n) λxs=>.ok (.tup xs) S
 | _=>.no
abbrev A.J5:ae->Option (List Bool)
 | []=>some []
 | .bl b::xs=>(A.J5 xs).map (b::·)
 | _=>none
theorem Io{K:aA}{H:Hp}:∀{xs:ae}{vs:List V}{bs:List Bool},AVs K ρ H xs vs->A.J5 xs=some bs->vs=bs.map V.bl
 | _,_,_,.nil,e=>by cases e;rfl
 | x::xs,_,bs,.cons h t,e=>by
  cases x with
  | bl b=>
   obtain⟨d,e1,rfl⟩:=bu.mp (show(A.J5 xs).map (b::·)=some bs from e)
   cases h
   rw[Io t e1];rfl
  | _=>cases e
abbrev DH (x:A)(S:iH):R A:=match x with
 | .ref n=>opt (iC S n) λxs=>opt (A.J5 xs) λbs=>.ok (.bl<|bs.all λb=>b) S
 | _=>.no
def AM(hc:X.calm=true):jj X (.builtin "all") (rN X<|f1 DH):=jj.imp (Dz hc) λd H Q h0=>by
 kcf_m;clear h0
 cases hv with
 | @ref p n hp=>
  gn_on;obtain⟨bs,hb,h⟩:=iK h;obtain⟨d,h1,r⟩:=R.lst hp<|iP hn;rw[Io r hb]at h1;exact⟨p,bs,rfl,j5.of h1,h _ _ _ .refl R<|.bl _⟩
 | _=>exact h.elim
abbrev maxOf:ag->bj
 | []=>none
 | [x]=>some x
 | x::xs=>(maxOf xs).map λm=>if m>x then m else x
theorem uZ:∀{ns:ag}{m:Int},maxOf ns=some m->m∈ns/\∀a∈ns,a<=m
 | [],_,e=>nomatch e
 | [x],m,e=>by cases e;exact⟨aM,λa h=>by rw[bf]at h;lia⟩
 | x::y::xs,m,e=>by
  obtain⟨m',e1,rfl⟩:=bu.mp<|show(maxOf (y::xs)).map (λm=>if m>x then m else x)=some m from e;obtain⟨h1,h2⟩:=uZ e1;by_cases hx:m'>x
  ·rw[aS hx];exact⟨aK _ h1,λa h=>(a_.mp h).elim (λz=>())<|h2 a⟩
  ·rw[aU hx];exact⟨aM,λa h=>(a_.mp h).elim (λz=>()) λz=>by have:=h2 a z;lia⟩
abbrev Bg (x:A)(S:iH):R A:=match x with
 | .ref n=>opt (iC S n) λxs=>opt (A.ints xs) λd=>opt (maxOf d) λm=>.ok (.int m) S
 | _=>.no
def EJ(hc:X.calm=true):jj X (.builtin "max") (rN X<|f1 Bg):=jj.imp (Eh hc) λj H Q h0=>by
 kcf_m;clear h0
 cases hv with
 | @ref p n hp=>
  gn_on;obtain⟨d,hb,h⟩:=iK h;obtain⟨m,hm,h⟩:=iK h;obtain⟨j,h1,r⟩:=R.lst hp<|iP hn;rw[oR r hb]at h1;obtain⟨g1,g2⟩:=uZ hm;refine⟨p,d,rfl,j5.of h1,fS g1,λM g f=>?_⟩;have:M=m:=gx (g2 M g)<|f m g1;rw[this];exact h _ _ _ .refl R<|.int _
 | _=>exact h.elim
abbrev insI (x:Int):ag->ag
 | []=>[x]
 | y::ys=>if x<=y then x::y::ys else y::insI x ys
abbrev sortI:ag->ag
 | []=>[]
 | x::xs=>insI x<|sortI xs
theorem insI_perm(x:Int):∀ys:ag,(insI x ys).Perm (x::ys)
 | []=>dB _
 | y::ys=>by
  unfold insI;by_cases h:x<=y
  ·rw[aS h]
  ·rw[aU h];exact((insI_perm x ys).cons y).trans (List.Perm.swap x y ys)
theorem sortI_perm:∀xs:ag,(sortI xs).Perm xs
 | []=>dB _
 | x::xs=>(insI_perm x<|sortI xs).trans<|(sortI_perm xs).cons x
theorem Bp(x:Int):∀ys:ag,ys.Pairwise (·<=·)->(insI x ys).Pairwise (·<=·)
 | [],_=>cg _ _
 | y::ys,h=>by
  unfold insI;obtain⟨h1,h2⟩:=bQ.mp h;by_cases hx:x<=y
  ·rw[aS hx];exact bQ.mpr ⟨λz d=>(a_.mp d).elim (λe=>e ▸ hx) λd=>Int.le_trans hx<|h1 z d,h⟩
  ·rw[aU hx];refine bQ.mpr ⟨λz d=>?_,Bp x ys h2⟩
   rcases a_.mp ((insI_perm x ys).mem_iff.mp d)with e|d
   ·subst e;lia
   ·exact h1 z d
theorem rK:∀xs:ag,(sortI xs).Pairwise (·<=·)
 | []=>List.Pairwise.nil
 | x::xs=>Bp x _<|rK xs
abbrev vp (x:A)(S:iH):R A:=opt (x.seq S) λxs=>opt (A.ints xs) λd=>gd (d.length<64)<|.ok (.ref S.length)<|S++[.lst<|(sortI d).map .int]
def Dn:jj X (.builtin "sorted") (rN X<|f1 vp):=jj.imp wZ λk H Q h0=>by
 kcf_m;clear h0;gn_on;obtain⟨d,hb,h⟩:=iK h;obtain⟨j,h⟩:=i9 h;obtain⟨p,us,rfl,hs,r⟩:=II R hv hn;rw[oR r hb]at hs;refine⟨p,d,rfl,hs,j,λl g f hp hw=>?_⟩;have:g=sortI d:=KC (hp.trans (sortI_perm d).symm) hw<|rK d;rw[this];exact kN R (pN _) .refl h l f
abbrev A.kd:A->iH->Option Kd
 | .non,_=>some .non
 | .bl _,_=>some .bl
 | .int _,_=>some .int
 | .str _,_=>some .str
 | .tup _,_=>some .tup
 | .ref n,S=>(iC S n).map λ_=>.lst
 | _,_=>none
def KA{K:aA}(k:Kd):PySem.W.kitOne K k.ty (.type "str")=some (decide<|k=.str):=by cases k<;>rfl
abbrev zz (k:Kd)(c:String):bn:=if c = "int" then some (decide<|k=.int\/k=.bl)else if c = "bool" then some (decide<|k=.bl)else if c = "tuple" then some (decide<|k=.tup)else if c = "list" then some (decide<|k=.lst)else if c = "str" then some (decide<|k=.str)else none
def De{K:aA}{k:Kd}{b:Bool}(h:zz k c=some b):PySem.W.kitOne K k.ty (.type c)=some b:=by
 unfold zz at h;split at h
 ·rename_i e;subst e;rw[<- h];exact JJ k
 ·split at h
  ·rename_i e;subst e;rw[<- h];exact GG k
  ·split at h
   ·rename_i e;subst e;rw[<- h];exact kit_tuple k
   ·split at h
    ·rename_i e;subst e;rw[<- h];exact Ih k
    ·split at h
     ·rename_i e;subst e;rw[<- h];exact KA k
     ·cases h
abbrev DX (x y:A)(S:iH):R A:=match y with
 | .ty c=>opt (x.kd S) λk=>opt (zz k c) λb=>.ok (.bl b) S
 | _=>.no
def Qh{K:aA}{H:Hp}{x:A}{v:V}{k:Kd}(R:Rel K ρ H S)(h:AV K ρ H x v)(e:x.kd S=some k):(∃p vs,v=.ref p/\l7 K H p vs/\k=.tup)\/OE H v k:=by
 cases h with
 | non=>cases e;exact .inr rfl
 | bl b=>cases e;exact .inr ⟨b,rfl⟩
 | int i=>cases e;exact .inr ⟨i,rfl⟩
 | str i=>cases e;exact .inr ⟨i,rfl⟩
 | tup h r=>cases e;exact .inl ⟨_,_,rfl,(l7.of h),rfl⟩
 | ref h=>
  obtain⟨xs,e1,e2⟩:=bu.mp e;obtain⟨vs,h1,_⟩:=R.lst h (iP e1)
  cases e2
  exact .inr ⟨_,vs,rfl,h1⟩
 | _=>cases e
def Cj:jj X (.builtin "isinstance") (rN X<|f2 DX):=λpins s σ H t us Q I rx h0=>by
 obtain⟨w,C,rfl,ρ,S,x,y,R,hv,f,h⟩:=Q3 h0;clear h0
 cases f with
 | ty c=>
  obtain⟨k,j,h⟩:=iK h;obtain⟨b,hb,d⟩:=iK h;have d:tY X ρ H Q (.bl b) S:=d;clear h
  rcases Qh R hv j with⟨p,t,rfl,m,rfl⟩|hd
  ·obtain⟨B,F,rfl,r1,r2⟩:=vals2 rx;obtain⟨g,q,⟨o,h1,h2,_⟩,_⟩:=I.tuple m
   cases(show _=Value.ref p from r1)
   cases(show _=Value.type c from r2)
   exact cB PySem.W.kitx_tuple I.xY ⟨o,h1,h2⟩ (De hb) (λz=>nomatch z) λG=>⟨.bl b,H,I.tok _,rfl,d _ _ _ .refl R<|.bl _⟩
  ·exact yM (c:=c) pins s σ H _ us Q I rx ⟨w,_,b,rfl,hd.SI,De hb,d _ _ _ .refl R<|.bl _⟩
 | _=>exact h.elim
end
abbrev RS.post (r:RS)(N:ae->iH->Prop)(T:A->iH->Prop)(B C:ae->iH->Prop)(E:Str->iH->Prop):Prop:=match r with
 | .nx τ S=>N τ S
 | .rt a S=>T a S
 | .bk τ S=>B τ S
 | .ct τ S=>C τ S
 | .ex c S=>E c S
 | .no=>False
abbrev RS.of {α:Type}(r:R α)(f:α->iH->RS):RS:=match r with
 | .ok a S=>f a S
 | .ex c S=>.ex c S
 | .no=>.no
def of_post{α:Type}{r:R α}{f:α->iH->RS}{N B C:ae->iH->Prop}{T:A->iH->Prop}{E:Str->iH->Prop}(h:(RS.of r f).post N T B C E):r.post (λa S=>(f a S).post N T B C E) E:=by
 cases r<;>exact h
def RS.mono{r:RS}{N B C j J L:ae->iH->Prop}{T M:A->iH->Prop}{E U:Str->iH->Prop}(h:r.post N T B C E)(hn:∀τ S,N τ S->j τ S)(Z:∀a S,T a S->M a S)(hb:∀τ S,B τ S->J τ S)(hc:∀τ S,C τ S->L τ S)(he:∀c S,E c S->U c S):r.post j M J L U:=by
 cases r with
 | nx τ S=>exact hn _ _ h
 | rt a S=>exact Z _ _ h
 | bk τ S=>exact hb _ _ h
 | ct τ S=>exact hc _ _ h
 | ex c S=>exact he _ _ h
 | no=>exact h.elim
abbrev C1 (X:Cx)(ρ:bd)(H:Hp)(N:L2.St->Hp->Prop):ae->iH->Prop:=λf g=>∀ρ' H' d,Ext ρ ρ' H H'->Rel X.K ρ' H' g->SR X.K ρ' H' f d->N d H'
def C1.ext{H H':Hp}{N:L2.St->Hp->Prop}(h:C1 X ρ H N τ S)(e:Ext ρ ρ' H H'):C1 X ρ' H' N τ S:=λd H2 f e2=>h d H2 f<|e.trans e2
abbrev wg (X:Cx)(ρ:bd)(H:Hp)(D:Ends)(r:RS):Prop:=r.post (C1 X ρ H D.nx) (tY X ρ H D.rt) (C1 X ρ H D.bk) (C1 X ρ H D.ct)<|XE X ρ H
def wg.ext{H H':Hp}{r:RS}(h:wg X ρ H D r)(e:Ext ρ ρ' H H'):wg X ρ' H' D r:=RS.mono h (λ_ _ z=>z.ext e) (λ_ _ z=>z.ext e) (λ_ _ z=>z.ext e) (λ_ _ z=>z.ext e) λ_ _ z=>z.ext e
abbrev tS (X:Cx)(c:Sm):TS:=λD σ H=>∃ρ S τ,Rel X.K ρ H S/\SR X.K ρ H τ σ/\wg X ρ H D (c τ S)
abbrev AS (X:Cx)(st:aG)(c:Sm):Prop:=PS X st<|tS X c
abbrev JA (X:Cx)(j:List aG)(c:Sm):Prop:=xB X j<|tS X c
abbrev tG (X:Cx)(g:Tg):TG:=λv σ H Q=>∃ρ S τ a,Rel X.K ρ H S/\SR X.K ρ H τ σ/\AV X.K ρ H a v/\(g a τ S).post (C1 X ρ H Q) (XE X ρ H)
abbrev AG (X:Cx)(e:aF)(g:Tg):Prop:=PG X e<|tG X g
meta abbrev Jo:=ae->ae->iH->R (ae)
abbrev T5 (X:Cx)(g:Jo):Lx:=λf σ H Q=>∃ρ S τ d,Rel X.K ρ H S/\SR X.K ρ H τ σ/\AVs X.K ρ H d f/\(g d τ S).post (C1 X ρ H Q) (XE X ρ H)
abbrev Q8 (X:Cx)(es:List aF)(g:Jo):Prop:=Pq X es<|T5 X g
section
variable {X:Cx}{pos:Pos}{a b e:aF}{st:aG}{rest:List aG}{c d:Sm}
def PS.imp{t t':TS}(h:PS X st t)(i:∀D σ H,t' D σ H->t D σ H):PS X st t':=λpins s σ H D I q=>h pins s σ H D I<|i D σ H q
def xB.imp{t t':TS}(h:xB X rest t)(i:∀D σ H,t' D σ H->t D σ H):xB X rest t':=λpins s σ H D I q=>h pins s σ H D I<|i D σ H q
def PG.imp{t t':TG}(h:PG X e t)(i:∀v σ H Q,t' v σ H Q->t v σ H Q):PG X e t':=λpins s σ H v u Q I r q=>h pins s σ H v u Q I r<|i _ _ _ _ q
abbrev je (i:Nat):Tg:=λa τ S=>.ok (τ.set i a) S
def iX{i:Nat}{x:Str}(j:X.N.Nodup)(hi:X.N[i]?=some x<|>ε)(hx:Loc X.env.scope x:=by first|exact Or.inl rfl|exact Or.inr rfl)(hf:X.fn x=true\/X.env.scope.names.lookup x=some .local<|>γ):AG X (.Name x pos) (je i):=
 PG.imp (xJ j hi hx hf) λv σ H Q ⟨ρ,S,τ,a,R,r,va,h⟩=>h ρ H _ .refl R<|r.set va
abbrev CC:Jo:=λd τ S=>match d with
 | []=>.ok τ S
 | _=>.no
abbrev tN (g:Tg)(gs:Jo):Jo:=λd τ S=>match d with
 | a::d=>(g a τ S).bind λτ1 S1=>gs d τ1 S1
 | []=>.no
def oE:Q8 X [] CC:=λpins s σ H f us Q I r ⟨ρ,S,τ,g,R,d,va,h⟩=>JC pins s σ H f us Q I r (by
 cases va with
 | nil=>exact⟨rfl,h ρ H σ .refl R d⟩
 | cons _ _=>exact h.elim)
def jG{g:Tg}{gs:Jo}(h1:AG X e g)(h2:Q8 X es gs)(hs:(assignEach (e::es) X.env).map (·.2)=assign e X.env::(assignEach es X.env).map (·.2)<|>ε):Q8 X (e::es) (tN g gs):=
 λpins s σ H m us Q I r ⟨ρ,S,τ,B,R,f,va,h⟩=>Fx h1 h2 hs pins s σ H m us Q I r (by
  cases va with
  | nil=>exact h.elim
  | cons j hr=>exact⟨_,_,rfl,ρ,S,τ,_,R,f,j,iE (iI h) .refl λτ1 S1 h1 ρ1 H1 t e1 k d=>⟨ρ1,S1,τ1,_,k,d,hr.ext e1,iE h1 e1 λ_ _ z=>z.ext e1⟩⟩)
abbrev Ak (n:Nat)(gs:Jo):Tg:=λa τ S=>match a with
 | .tup xs | .ktu xs=>gd (xs.length=n) (gs xs τ S)
 | _=>.no
def qC{k n:Nat}{gs:Jo}(hc:X.calm=true)(h:Q8 X es gs)(hn:(assignEach es X.env).length=n<|>ε)(j:(assignEach es X.env).findIdx? (·.1)=none<|>ε):AG X (.Tuple es k pos) (Ak n gs):=
 PG.imp (Oi hc h hn j) λv σ H Q h9=>by
  obtain⟨ρ,S,τ,a,R,r,va,h⟩:=h9
  cases va with
  | tup h1 r1=>
   obtain⟨d,h⟩:=i9 h;exact⟨_,_,rfl,l7.of h1,by rw[<- r1.length];exact d,ρ,S,τ,_,R,r,r1,h⟩
  | ktu h1 r1=>
   obtain⟨d,h⟩:=i9 h;exact⟨_,_,rfl,.inr h1,by rw[<- r1.length];exact d,ρ,S,τ,_,R,r,r1,h⟩
  | _=>exact h.elim
abbrev y9 (o i v:A)(S:iH):R Unit:=match o,i with
 | .ref n,.int k=>opt (iC S n) λxs=>opt (zL xs.length k) λj=>.ok Unit.unit (S.set n<|.lst<|xs.set j v)
 | _,_=>.no
abbrev T7 (X:Cx):FW:=λo i v H Q=>∃ρ S d f g,Rel X.K ρ H S/\AV X.K ρ H d o/\AV X.K ρ H f i/\AV X.K ρ H g v/\(y9 d f g S).post (λ_ j=>∀ρ' H',Ext ρ ρ' H H'->Rel X.K ρ' H' j->Q H') (XE X ρ H)
def Ku:Ja X (T7 X):=λpins s σ H o i v d g u Q I t C F h9=>by
 obtain⟨ρ,S,J,G,K,R,h1,h2,z,h⟩:=h9
 cases h1 with
 | @ref p n hp=>
  cases h2 with
  | int k=>
   gn_on;obtain⟨j,B,h⟩:=iK h;obtain⟨m,e,r⟩:=R.lst hp<|iP hn;obtain⟨ex,f⟩:=R.put hp (iP hn)<|r.set z j;exact set_list pins s σ H _ _ v d g u Q I t C F ⟨p,m,k,j,rfl,rfl,e,by rw[<- r.length];exact B,h _ _ ex f⟩
  | _=>exact h.elim
 | _=>exact h.elim
abbrev OQ (co j:Ex):Tg:=λa τ S=>(co τ S).bind λo S1=>(j τ S1).bind λi S2=>(y9 o i a S2).bind λ_ S3=>.ok τ S3
def xV{co J:Ex}(L:AE X o co)(hi:AE X i J)
  (M:(∀v,assign (.Subscript o i pos) X.env v=(do
   let ov <- holding [v] (eval o X.env)
   let iv <- holding [v,ov] (eval i X.env)
   standAt pos
   holding [v,ov,iv] (setItem ov iv v)
   release [v,ov,iv] []))<|>ζ):AG X (.Subscript o i pos) (OQ co J):=PG.imp (Hu L hi Ku M) λv σ H Q h9=>by
 obtain⟨ρ,S,τ,a,R,r,va,h⟩:=h9;refine⟨ρ,S,τ,R,r,iE (iI h) .refl λo S1 h1 ρ1 H1 x e1 j t=>⟨ρ1,S1,τ,j,r.ext e1,iE (iI h1) e1 λi S2 h2 d H2 y e2 R2 g=>?_⟩⟩;refine⟨d,S2,o,i,a,R2,t.ext e2,g,va.ext<|e1.trans e2,iE (iI h2) (e1.trans e2) λ_ S3 z ρ3 k f m=>?_⟩;exact z ρ3 k σ ((e1.trans e2).trans f) m<|r.ext<|(e1.trans e2).trans f
abbrev nY:Sm:=λτ S=>.nx τ S
abbrev i_ (c d:Sm):Sm:=λτ S=>match c τ S with
 | .nx f g=>d f g
 | r=>r
def jL:JA X [] nY:=xB.imp K6 λD σ H ⟨ρ,S,τ,R,r,h⟩=>h ρ H σ .refl R r
def J1{H:Hp}(h:tS X (i_ c d) D σ H):Pc (tS X c) (tS X d) D σ H:=by
 kl_no;refine⟨ρ,S,τ,R,r,?_⟩;unfold i_ at h
 cases hc:c τ S with
 | nx τ1 S1=>
  rw[hc]at h;exact λρ1 H1 f e1 g r1=>⟨ρ1,S1,τ1,g,r1,wg.ext h e1⟩
 | rt a S1=>rw[hc]at h;exact h
 | bk τ1 S1=>rw[hc]at h;exact h
 | ct τ1 S1=>rw[hc]at h;exact h
 | ex x S1=>rw[hc]at h;exact h
 | no=>rw[hc]at h;exact h
def iJ(h1:AS X st c)(h2:JA X rest d):JA X (st::rest) (i_ c d):=xB.imp (IY h1 h2) λD σ H h=>J1 h
def iM(h1:AS X st c):JA X [st] c:=Lj h1
abbrev Nq:Sm:=λτ S=>.bk τ S
abbrev O4:Sm:=λτ S=>.ct τ S
abbrev qo (e:Ex):Sm:=λτ S=>.of (e τ S) λ_ S1=>.nx τ S1
def oA{f:Ex}(j:AE X e f)(hs:swapsWith e none pos.line X.env=pure false<|>ε):AS X (.Expr e pos) (qo f):=PS.imp (KH j hs) λD σ H ⟨ρ,S,τ,R,r,h⟩=>
 ⟨ρ,S,τ,R,r,iE (of_post h) .refl λa S1 h1 ρ1 H1 x e1 d g=>h1 ρ1 H1 σ e1 d<|r.ext e1⟩
abbrev j4 (e:Ex):Sm:=λτ S=>.of (e τ S) λa S1=>.rt a S1
def jf{f:Ex}(j:AE X e f):AS X (.Return (some e) pos) (j4 f):=PS.imp (Nm j) λD σ H ⟨ρ,S,τ,R,r,h⟩=>⟨ρ,S,τ,R,r,iE (of_post h) .refl λa S1 h1=>h1⟩
abbrev P0:Sm:=λτ S=>.rt .non S
abbrev vD (t:Te)(c d:Sm):Sm:=λτ S=>.of (t τ S) λb S1=>match b with|true=>c τ S1|false=>d τ S1
def l6{t:Te}(j:AT X e t)(J:JA X ca c)(hb:JA X cb d):AS X (.If e ca cb pos) (vD t c d):=PS.imp (Qa j J hb) λD σ H h9=>by
 z_go;refine⟨ρ,S,τ,R,r,iE (of_post h) .refl λb S1 h1 ρ1 H1 e1 f=>?_⟩
 cases b with
 | true=>rw[aS rfl];exact⟨ρ1,S1,τ,f,r.ext e1,wg.ext h1 e1⟩
 | false=>rw[aU bg];exact⟨ρ1,S1,τ,f,r.ext e1,wg.ext h1 e1⟩
abbrev jn (e:Ex)(g:Tg):Sm:=λτ S=>.of (e τ S) λa S1=>.of (g a τ S1) λd S2=>.nx d S2
def Kg{f:Ex}{g:Tg}{H:Hp}(h:tS X (jn f g) D σ H):F_ (tE X f) (tG X g) D σ H:=by
 kl_no;exact⟨ρ,S,τ,R,r,iE (of_post h) .refl λa S1 h1 ρ1 H1 x e1 j d=>⟨ρ1,S1,τ,a,j,r.ext e1,d,iE (of_post h1) e1 λk S2 h2=>C1.ext h2 e1⟩⟩
def qI{tg:aF}{f:Ex}{g:Tg}(j:AE X e f)(hg:AG X tg g)(hs:swapsWithSole [tg] e pos.line X.env=pure false<|>ε)(hw:swappedStores [tg] e X.env=pure none<|>ε)
  (h1:(assignEach [tg] X.env).map (·.2)=[assign tg X.env]<|>ε):AS X (.Assign [tg] e pos) (jn f g):=PS.imp (NV j hg hs hw h1) λD σ H h=>Kg h
def jb{i:Nat}{x:Str}{f:Ex}(j:X.N.Nodup)(J:AE X e f)(hi:X.N[i]?=some x<|>ε)(hx:Loc X.env.scope x:=by first|exact Or.inl rfl|exact Or.inr rfl)(hs:(swapsWith e (some<|.Name x pos') pos.line X.env=pure false)<|>ε)(hf:X.fn x=true\/X.env.scope.names.lookup x=some .local<|>γ) :
  AS X (.Assign [.Name x pos'] e pos) (jn f<|je i):=PS.imp (Oz j hi hx J hs hf) λD σ H ⟨ρ,S,τ,R,r,h⟩=>
 ⟨ρ,S,τ,R,r,iE (of_post h) .refl λa S1 h1 ρ1 H1 x e1 g d=>h1 ρ1 H1 _ e1 g<|(r.ext e1).set d⟩
abbrev Rf (i j:Nat)(c:n8):Sm:=λτ S=>.of (c τ S) λd S1=>match d with
 | [a,b]=>.nx ((τ.set i a).set j b) S1
 | _=>.no
abbrev ip (X:Cx)(f:A->A->iH->R A):OY:=λx y H Q=>∃ρ S a b,Rel X.K ρ H S/\AV X.K ρ H a x/\AV X.K ρ H b y/\(f a b S).post (tY X ρ H Q) (XE X ρ H)
abbrev JU (a b:A)(S:iH):R A:=match a,b with
 | .int i,.int j=>.ok (.int<|i+j) S
 | _,_=>.no
def BR:OT X .Add (ip X JU):=λpins s σ H x y v u Q I r1 r2 h9=>by
 x_go
 cases va with
 | int i=>
  cases vb with
  | int j=>exact NW pins s σ H _ _ v u Q I r1 r2 ⟨i,j,rfl,rfl,h _ _ _ .refl R<|.int _⟩
  | _=>exact h.elim
 | _=>exact h.elim
def KG:OT X .Sub (ip X aSub):=λpins s σ H x y v u Q I r1 r2 h9=>by
 x_go
 cases va with
 | int i=>
  cases vb with
  | int j=>exact MV pins s σ H _ _ v u Q I r1 r2 ⟨i,j,rfl,rfl,h _ _ _ .refl R<|.int _⟩
  | _=>exact h.elim
 | _=>exact h.elim
abbrev z6 (i:Nat)(f:A->A->iH->R A)(e:Ex):Sm:=λτ S=>if (τ.getD i .unb).kZ then .no else .of (e τ S) λb S1=>.of (f (τ.getD i .unb) b S1) λc S2=>.nx (τ.set i c) S2
def An{i:Nat}{x:Str}{c:Ex}{f:A->A->iH->R A}(J:X.N.Nodup)(L:AE X e c)(M:OT X op<|ip X f)(hi:X.N[i]?=some x<|>ε)(hx:Loc X.env.scope x:=by first|exact Or.inl rfl|exact Or.inr rfl)(hf:X.fn x=true\/X.env.scope.names.lookup x=some .local<|>γ) :
  AS X (.AugAssign (.Name x pos') op e pos) (z6 i f c):=PS.imp (NS J hi hx L M hf) λD σ H h9=>by
 z_go;have g:∀x,τ[i]?=some x->x.kZ=false->(RS.of (c τ S) λb S1=>.of (f x b S1) λc S2=>.nx (τ.set i c) S2).post (C1 X ρ H D.nx) (tY X ρ H D.rt) (C1 X ρ H D.bk) (C1 X ρ H D.ct) (XE X ρ H) ->
   ∃x,σ[i]?=some (some x)/\tE X c σ H λy H1=>ip X f x y H1 λz H2=>D.nx (σ.set i<|some z) H2:=by
  intro x hi hx h
  rcases r.at i x hi with z|⟨v,e,q⟩
  ·subst z;cases hx
  ·refine⟨v,e,ρ,S,τ,R,r,iE (of_post h) .refl λb S1 h1 ρ1 H1 y e1 k m=>⟨ρ1,S1,x,b,k,q.ext e1,m,iE (of_post h1) e1 λw S2 h2 d H2 z e2 R2 j=>?_⟩⟩;exact h2 d H2 _ (e1.trans e2) R2<|(r.ext<|e1.trans e2).set j
 unfold z6 wg at h;rw[aI]at h
 cases hi:τ[i]? with
 | none=>rw[hi]at h;exact h.elim
 | some x=>
  rw[hi]at h
  cases hx:x.kZ with
  | true=>rw[show(some x).getD .unb=x from rfl,hx]at h;exact h.elim
  | false=>rw[show(some x).getD .unb=x from rfl,hx]at h;exact g x hi hx h
abbrev JN (a b:A)(S:iH):R A:=match a,b with
 | .ref n,.int i=>opt (iC S n) λxs=>gd (0<=i) (opt (xs[i.toNat]?) λx=>.ok x S)
 | _,_=>.no
abbrev QI (co j J:Ex)(f:A->A->iH->R A):Sm:=λτ S=>.of (co τ S) λo S1=>.of (j τ S1) λi S2=>.of (JN o i S2) λx S3=>.of (J τ S3) λy S4=>.of (f x y S4) λz S5=>.of (y9 o i z S5) λ_ d=>.nx τ d
abbrev j9 (t:Te)(c:Sm):Nat->Sm
 | 0=>λ_ _=>.no
 | n+1=>λτ S=>.of (t τ S) λb S1=>match b with
  | false=>.nx τ S1
  | true=>match c τ S1 with
   | .nx d f=>j9 t c n d f
   | .ct d f=>j9 t c n d f
   | .bk d f=>.nx d f
   | r=>r
def u9(n:Nat){t:Te}(hp:PassesOwn (model X.prog X.w) X.A X.env X.xe)(L:AT X e t)(hb:JA X body c):AS X (.While e body [] pos) (j9 t c n):=PS.imp (IK hp L hb) λD σ H h9=>by
 z_go;refine⟨λm g H'=>∃ρ' f d,Ext ρ ρ' H H'/\Rel X.K ρ' H' f/\SR X.K ρ' H' d g/\wg X ρ' H' D (j9 t c m d f),⟨n,ρ,S,τ,.refl,R,r,h⟩,?_⟩;rintro m C H1 ⟨ρ1,S1,τ1,e1,G,r1,h1⟩
 cases m with
 | zero=>exact h1.elim
 | succ m=>
  refine⟨ρ1,S1,τ1,G,r1,iE (of_post h1) .refl λb S2 h2 j H2 e2 R2=>?_⟩
  cases b with
  | false=>rw[aU bg];exact h2 j H2 C e2 R2 (r1.ext e2)
  | true=>
   rw[aS rfl];refine⟨λg H'=>∃ρ' f d,Ext ρ ρ' H H'/\Rel X.K ρ' H' f/\SR X.K ρ' H' d g/\wg X ρ' H' D (j9 t c m d f),λg H' z=>⟨m,bE _,z⟩,j,S2,τ1,R2,r1.ext e2,?_⟩;have h2:wg X ρ1 H1 D (match c τ1 S2 with
    | .nx d f=>j9 t c m d f
    | .ct d f=>j9 t c m d f
    | .bk d f=>.nx d f
    | r=>r):=h2
   cases hc:c τ1 S2 with
   | nx τ3 S3=>rw[hc]at h2;exact λρ3 J F k B r3=>⟨ρ3,S3,τ3,(e1.trans e2).trans k,B,r3,wg.ext h2<|e2.trans k⟩
   | ct τ3 S3=>rw[hc]at h2;exact λρ3 J F k B r3=>⟨ρ3,S3,τ3,(e1.trans e2).trans k,B,r3,wg.ext h2<|e2.trans k⟩
   | bk τ3 S3=>rw[hc]at h2;exact C1.ext h2 e2
   | rt a S3=>rw[hc]at h2;exact tY.ext h2 e2
   | ex x S3=>rw[hc]at h2;exact XE.ext h2 e2
   | no=>rw[hc]at h2;exact h2
end
structure Src where
 k:Nat
 get:Nat->iH->Option A
 fin:iH->Bool
structure JR (K:aA)(s:Src)(J:It)(ρ0:bd)(H0:Hp):Prop where
 go:∀(i:Nat) (S:iH) (H:Hp) (ρ:bd) (x:A),Ext0 ρ0 ρ H0 H->Rel K ρ H S->s.get i S=some x->J.go i H/\∀v H',J.yld i H v H'->Ext ρ ρ H H'/\Rel K ρ H' S/\AV K ρ H' x v
 stop:∀(S:iH) (H:Hp) (ρ:bd),Ext0 ρ0 ρ H0 H->Rel K ρ H S->s.fin S=true->J.stop s.k H
meta abbrev Ic:=ae->iH->R Src
abbrev tI (X:Cx)(c:Ic):TI:=λσ H Q=>∃ρ S τ,Rel X.K ρ H S/\SR X.K ρ H τ σ/\(c τ S).post (λs d=>∀ρ' H' J,Ext ρ ρ' H H'->Rel X.K ρ' H' d->JR X.K s J ρ' H'->Q J H') (XE X ρ H)
abbrev AI (X:Cx)(tg iter:aF)(c:Ic):Prop:=PI X tg iter<|tI X c
abbrev nJ (xs:ae):Src:=⟨xs.length,λi _=>xs[i]?,λ_=>true⟩
abbrev jd (n k:Nat):Src:=⟨k,λi S=>(iC S n).bind (·[i]?),λS=>match iC S n with
 | some ys=>decide (ys.length<=k)
 | none=>false⟩
abbrev oO (lo hi:Int):Src:=⟨(hi-lo).toNat,λi _=>if i<(hi-lo).toNat then some (.int<|lo+i)else none,λ_=>true⟩
abbrev jW (c:Ex):Ic:=λτ S=>(c τ S).bind λa S1=>match a with
 | .tup xs=>.ok (nJ xs) S1
 | .frz xs=>.ok (nJ xs) S1
 | .ref n=>opt (iC S1 n) λxs=>.ok (jd n xs.length) S1
 | .str x=>gd (x.cps.all (· < 128)=true) (.ok (nJ<|x.cps.toList.map λc=>.str ⟨#[c]⟩) S1)
 | _=>.no
section
variable {X:Cx}{pos:Pos}{tg e a b:aF}
def N1{K:aA}{j:Hp}{p:aq}(h:l7 K j p vs)(r:AVs K ρ0 j xs vs):JR K (nJ xs) (OS K p) ρ0 j where
 go:=λi S H ρ x e R g=>by
  obtain⟨v,ev,d⟩:=(AVs.jA e r).get g;have hs:=e.TQ h;refine⟨⟨vs,v,hs,ev⟩,λw H' ⟨e1,y⟩=>?_⟩;subst e1;have:=y vs hs;rw[ev]at this
  cases this
  exact⟨.refl,R,d⟩
 stop:=λS H ρ e R _=>⟨vs,e.TQ h,by rw[<- r.length];exact aO _⟩
def Ny{K:aA}{j:Hp}{p:aq}(h:Fz K j p vs)(r:AVs K ρ0 j xs vs):JR K (nJ xs) (QY K p) ρ0 j where
 go:=λi S H ρ x e R g=>by
  obtain⟨v,ev,d⟩:=(AVs.jA e r).get g;have hs:=(e.fz h).Kh;refine⟨⟨vs,v,hs,ev⟩,λw H' ⟨e1,y⟩=>?_⟩;subst e1;have:=y vs hs;rw[ev]at this
  cases this
  exact⟨.refl,R,d⟩
 stop:=λS H ρ e R _=>⟨vs,(e.fz h).Kh,by rw[<- r.length];exact aO _⟩
def Mz{K:aA}{j:bd}{J:Hp}{p:aq}{n k:Nat}(h:j[n]?=some p):JR K (jd n k) (QY K p) j J where
 go:=λi S H ρ x e R g=>by
  obtain⟨ys,hn,hx⟩:=bR.mp<|show(iC S n).bind (·[i]?)=some x from g;obtain⟨d,h1,r⟩:=R.lst (e.get h)<|iP hn;obtain⟨v,ev,f⟩:=r.get hx;refine⟨⟨d,v,j5.of h1,ev⟩,λw H' ⟨e1,y⟩=>?_⟩;subst e1;have:=y d<|j5.of h1;rw[ev]at this
  cases this
  exact⟨.refl,R,f⟩
 stop:=λS H ρ e R g=>by
  have g:(match iC S n with
   | some ys=>decide (ys.length<=k)
   | none=>false)=true:=g
  cases hn:iC S n with
  | none=>rw[hn]at g;cases g
  | some ys=>
   rw[hn]at g;obtain⟨d,h1,r⟩:=R.lst (e.get h)<|iP hn;exact⟨d,j5.of h1,by rw[<- r.length];exact dO g⟩
def HM{K:aA}{j:Hp}{lo hi:Int}:JR K (oO lo hi) (Pz lo (hi-lo).toNat) ρ0 j where
 go:=λi S H ρ x e R g=>by
  have g:(if i<(hi-lo).toNat then some (A.int<|lo+i)else none)=some x:=g;by_cases d:i<(hi-lo).toNat
  ·rw[aS d]at g
   cases g
   refine⟨d,λw H' ⟨e1,y⟩=>?_⟩;subst e1 y;exact⟨.refl,R,.int _⟩
  ·rw[aU d]at g;cases g
 stop:=λS H ρ e R _=>aO _
def Ni{K:aA}{J:Hp}{x:Str}:JR K (nJ<|x.cps.toList.map λc=>A.str ⟨#[c]⟩) (Sq x) ρ0 J where
 go:=λi S H ρ y e R g=>by
  have g:(x.cps.toList.map λc=>A.str ⟨#[c]⟩)[i]?=some y:=g;rw[aY]at g;obtain⟨c,hc,rfl⟩:=bu.mp g;rw[fZ]at hc;refine⟨(Array.getElem?_eq_some_iff.mp hc).1,λw H' ⟨e1,j,d,f⟩=>?_⟩;rw[hc]at d
  cases d
  subst e1 f;exact⟨.refl,R,.str _⟩
 stop:=λS H ρ e R _=>by
  show(x.cps.toList.map λc=>A.str ⟨#[c]⟩).length=x.cps.size;rw[aN,b7]
def mE{c:Ex}(J:AE X e c):AI X tg e (jW c):=λpins s σ H Q I h9=>by
 z_go;have hb:=iI h
 cases hc:c τ S with
 | no=>rw[hc]at hb;exact hb.elim
 | ex x S1=>
  rw[hc]at hb;exact G1 J pins s σ H Q I ⟨ρ,S,τ,R,r,by rw[hc];exact hb⟩
 | ok a S1=>
  rw[hc]at hb
  cases a with
  | tup xs=>
   refine G1 J pins s σ H Q I ⟨ρ,S,τ,R,r,?_⟩;rw[hc];intro ρ1 H1 x e1 d f
   cases f with
   | tup h1 r1=>exact⟨_,rfl,⟨_,(l7.of h1)⟩,hb ρ1 H1 _ e1 d<|N1 (l7.of h1) r1⟩
  | frz xs=>
   refine CD J pins s σ H Q I ⟨ρ,S,τ,R,r,?_⟩;rw[hc];intro ρ1 H1 x e1 d f
   cases f with
   | frz h1 r1=>exact⟨_,rfl,⟨_,h1.Kh⟩,hb ρ1 H1 _ e1 d<|Ny h1 r1⟩
  | ref n=>
   obtain⟨xs,hn,hb⟩:=iK hb;refine CD J pins s σ H Q I ⟨ρ,S,τ,R,r,?_⟩;rw[hc];intro ρ1 H1 x e1 d f
   cases f with
   | ref hp=>
    obtain⟨j,h1,r1⟩:=d.lst hp<|iP hn;exact⟨_,rfl,⟨_,j5.of h1⟩,hb ρ1 H1 _ e1 d<|Mz hp⟩
  | str x=>
   obtain⟨g,hb⟩:=i9 hb;refine Ou J pins s σ H Q I ⟨ρ,S,τ,R,r,?_⟩;rw[hc];intro ρ1 H1 v e1 d f
   cases f with
   | str=>exact⟨x,rfl,g,hb ρ1 H1 _ e1 d Ni⟩
  | _=>exact hb.elim
abbrev bnd (i:Int):Prop:=-(2 ^ 62)<=i/\i<2 ^ 62
instance (i:Int):Decidable (bnd i):=by unfold bnd;infer_instance
abbrev qk (c:Ex):Ic:=λτ S=>(c τ S).bind λa S1=>match a with
 | .int j=>gd (bnd j) (.ok (oO 0 j) S1)
 | _=>.no
abbrev uX (c d:Ex):Ic:=λτ S=>(c τ S).bind λa S1=>(d τ S1).bind λb S2=>match a,b with
 | .int i,.int j=>gd (bnd i/\bnd j) (.ok (oO i j) S2)
 | _,_=>.no
def n6{p:Pos}{c:Ex}(hm:X.mg "range" = none)(J:AE X a c)(hg:Gl X "range"<|>ε)(hs:starEach [a] X.env=[(false,eval a X.env)]<|>ε):AI X tg (.Call (.Name "range" p) [a] [] pos) (qk c):=λpins s σ H Q I h9=>by
 z_go;refine DT hg hm (ly J sf hs) hs pins s σ H Q I ⟨ρ,S,τ,R,r,iE (iI h) .refl λx S1 h1 ρ1 H1 v e1 d f=>?_⟩
 cases f with
 | int j=>
  obtain⟨hb,h1⟩:=i9 h1;exact⟨_,rfl,hb.1,hb.2,by have:=h1 ρ1 H1 _ e1 d HM;rwa [Int.sub_zero]at this⟩
 | _=>exact h1.elim
def D5{p:Pos}{c d:Ex}(hm:X.mg "range" = none)(L:AE X a c)(hb:AE X b d)(hg:Gl X "range"<|>ε)(hs:starEach [a,b] X.env=[(false,eval a X.env),(false,eval b X.env)]<|>ε)(J:starEach [b] X.env=[(false,eval b X.env)]<|>ε):AI X tg (.Call (.Name "range" p) [a,b] [] pos) (uX c d):=λpins s σ H Q I h9=>by
 z_go;refine Eo hg hm (ly L (ly hb sf J)<|by rw[hs,J]) hs J pins s σ H Q I ⟨ρ,S,τ,R,r,iE (iI h) .refl λx S1 h1 ρ1 H1 v e1 k m=>⟨ρ1,S1,τ,k,r.ext e1,iE (iI h1) e1 λy S2 h2 f H2 w e2 R2 g=>?_⟩⟩
 cases m with
 | int i=>
  cases g with
  | int j=>
   obtain⟨hb,h2⟩:=i9 h2;exact⟨_,_,rfl,⟨hb.1.1,hb.1.2,hb.2.1,hb.2.2⟩,h2 f H2 _ (e1.trans e2) R2 HM⟩
  | _=>exact h2.elim
 | _=>exact h2.elim
abbrev nh (s:Src)(g:Tg)(c:Sm):Nat->Nat->Sm
 | 0,_=>λτ S=>if s.fin S then .nx τ S else .no
 | k+1,i=>λτ S=>match s.get i S with
  | none=>.no
  | some x=>.of (g x τ S) λτ1 S1=>match c τ1 S1 with
   | .nx d f=>nh s g c k (i+1) d f
   | .ct d f=>nh s g c k (i+1) d f
   | .bk d f=>.nx d f
   | r=>r
abbrev m8 (src:Ic)(g:Tg)(c:Sm):Sm:=λτ S=>.of (src τ S) λs S1=>nh s g c s.k 0 τ S1
def nK{iter:aF}{src:Ic}{g:Tg}{c:Sm}(hp:PassesOwn (model X.prog X.w) X.A X.env X.xe)(hc:X.calm=true)(hi:AI X tg iter src)(hg:AG X tg g)(hb:JA X body c)
  (hs:(∀x,foldedSetIterable iter X.env x=pure x)<|>ζ):AS X (.For tg iter body [] pos) (m8 src g c):=PS.imp (N4 hp hc hi hg hb hs) λD σ H h9=>by
 z_go;refine⟨ρ,S,τ,R,r,iE (of_post h) .refl λs S1 h1 ρ1 H1 J e1 V U=>?_⟩;refine⟨λi m F H'=>m+i=s.k/\∃ρ' C d,Ext ρ1 ρ' H1 H'/\Rel X.K ρ' H' C/\SR X.K ρ' H' d F/\wg X ρ' H' D (nh s g c m i d C),⟨s.k,rfl,ρ1,S1,τ,.refl,V,r.ext e1,wg.ext h1 e1⟩,?_⟩;rintro i m M H2 ⟨hm,j,S2,L,e2,R2,r2,h2⟩
 cases m with
 | zero=>
  left;have h2:wg X j H2 D (if s.fin S2 then .nx L S2 else .no):=h2
  cases hf:s.fin S2 with
  | false=>rw[hf]at h2;exact h2.elim
  | true=>
   rw[hf]at h2;refine⟨by rw[show i=s.k by lia];exact U.stop S2 H2 j e2.toExt0 R2 hf,h2 j H2 M .refl R2 r2⟩
 | succ m=>
  right;have h2:wg X j H2 D (match s.get i S2 with
   | none=>.no
   | some x=>.of (g x L S2) λτ1 S1=>match c τ1 S1 with
    | .nx d C=>nh s g c m (i+1) d C
    | .ct d C=>nh s g c m (i+1) d C
    | .bk d C=>.nx d C
    | r=>r):=h2
  cases hx:s.get i S2 with
  | none=>rw[hx]at h2;exact h2.elim
  | some x=>
   rw[hx]at h2;obtain⟨N,hy⟩:=U.go i S2 H2 j x e2.toExt0 R2 hx;refine⟨N,λF H'=>m+(i+1)=s.k/\∃ρ' C d,Ext ρ1 ρ' H1 H'/\Rel X.K ρ' H' C/\SR X.K ρ' H' d F/\wg X ρ' H' D (nh s g c m (i+1) d C),λF H' z=>⟨m,bE _,z⟩,λv H3 y=>?_⟩;obtain⟨O,R3,v3⟩:=hy v H3 y;refine⟨j,S2,L,x,R3,r2.ext O,v3,iE (of_post h2) O λτ4 S4 B P H4 Y e4 R4 Z=>⟨P,S4,τ4,R4,Z,?_⟩⟩;have f:=O.trans e4
   cases t:c τ4 S4 with
   | nx G S5=>rw[t]at B;exact λρ5 H5 σ5 e5 R5 r5=>⟨(),ρ5,S5,G,(e2.trans f).trans e5,R5,r5,wg.ext B<|f.trans e5⟩
   | ct G S5=>rw[t]at B;exact λρ5 H5 σ5 e5 R5 r5=>⟨(),ρ5,S5,G,(e2.trans f).trans e5,R5,r5,wg.ext B<|f.trans e5⟩
   | bk G S5=>rw[t]at B;exact C1.ext B f
   | rt W S5=>rw[t]at B;exact tY.ext B f
   | ex W S5=>rw[t]at B;exact XE.ext B f
   | no=>rw[t]at B;exact B
end
section
variable {X:Cx}{tg a b c0:aF}{pos:Pos}
abbrev wk (lo hi:Int):Src:=⟨(lo-hi).toNat,λi _=>if i<(lo-hi).toNat then some (.int<|lo-i)else none,λ_=>true⟩
def Pa{K:aA}{j:Hp}{lo hi:Int}:JR K (wk lo hi) (QX lo (lo-hi).toNat) ρ0 j where
 go:=λi S H ρ x e R g=>by
  have g:(if i<(lo-hi).toNat then some (A.int<|lo-i)else none)=some x:=g;by_cases d:i<(lo-hi).toNat
  ·rw[aS d]at g
   cases g
   refine⟨d,λw H' ⟨e1,y⟩=>?_⟩;subst e1 y;exact⟨.refl,R,.int _⟩
  ·rw[aU d]at g;cases g
 stop:=λS H ρ e R _=>aO _
abbrev Rw (a b k:A)(S3:iH):R Src:=match a,b,k with
 | .int i,.int j,.int m=>gd (m=-1/\bnd i/\bnd j) (.ok (wk i j) S3)
 | _,_,_=>.no
def Ft{a b k:A}{P:Src->iH->Prop}{E:Str->iH->Prop}(h:(Rw a b k S3).post P E):∃i j,a=.int i/\b=.int j/\k=.int (-1)/\bnd i/\bnd j/\P (wk i j) S3:=by
 unfold Rw at h;split at h
 ·obtain⟨⟨z,h1,h2⟩,h⟩:=i9 h;exact⟨_,_,rfl,rfl,by rw[z],h1,h2,h⟩
 ·exact h.elim
abbrev ya (c d:Ex)(e:Ex):Ic:=λτ S=>(c τ S).bind λa S1=>(d τ S1).bind λb S2=>(e τ S2).bind λk S3=>Rw a b k S3
def yG{c d e:Ex}{i j:Int}(h:c τ S=.ok (.int i) S1)(h':d τ S1=.ok (.int j) S2)(J:e τ S2=.ok (.int<|-1) S3)(hb:bnd i)(L:bnd j):ya c d e τ S=.ok (wk i j) S3:=by
 unfold ya;rw[h];show(d τ S1).bind _=_;rw[h'];show(e τ S2).bind _=_;rw[J];exact aS ⟨rfl,hb,L⟩
def wA{p:Pos}{c d e:Ex}(hm:X.mg "range" = none)(ha:AE X a c)(hb:AE X b d)(hc:AE X c0 e)(hg:Gl X "range"<|>ε)(hs:starEach [a,b,c0] X.env=[(false,eval a X.env),(false,eval b X.env),(false,eval c0 X.env)]<|>ε)(U:starEach [b,c0] X.env=[(false,eval b X.env),(false,eval c0 X.env)]<|>ε)(Z:starEach [c0] X.env=[(false,eval c0 X.env)]<|>ε) :
  AI X tg (.Call (.Name "range" p) [a,b,c0] [] pos) (ya c d e):=λpins s σ H Q I h9=>by
 z_go;refine JE hg hm (ly ha (ly hb (ly hc sf Z)<|by rw[U,Z])<|by rw[hs,U]) hs U pins s σ H Q I ⟨ρ,S,τ,R,r,iE (iI h) .refl λx S1 h1 ρ1 H1 v e1 t G=>⟨ρ1,S1,τ,t,r.ext e1,iE (iI h1) e1 λy S2 h2 k H2 w e2 R2 m=>⟨k,S2,τ,R2,(r.ext e1).ext e2,iE (iI h2) (e1.trans e2) λz S3 M ρ3 C u J F B=>?_⟩⟩⟩;obtain⟨i,j,hx,hy,L,f,g,K⟩:=Ft M;subst hx hy L
 cases G
 cases m
 cases B
 exact⟨_,_,rfl,⟨f.1,f.2,g.1,g.2⟩,K ρ3 C _ ((e1.trans e2).trans J) F Pa⟩
end
abbrev R.jh {α β:Type}(r:R α)(f:α->iH->R β):R β:=match r with
 | .ok a S=>f a S
 | _=>.no
def ja{α β:Type}{r:R α}{f:α->iH->R β}{b:β}(h:r.jh f=.ok b S2):∃a S,r=.ok a S/\f a S=.ok b S2:=by
 cases r with
 | ok a S=>exact⟨a,S,rfl,h⟩
 | ex _ _=>cases h
 | no=>cases h
def qR{α β:Type}{r:R α}{f:α->iH->R β}{P:β->iH->Prop}{E:Str->iH->Prop}(h:(r.jh f).post P E):∃a S,r=.ok a S/\(f a S).post P E:=by
 cases r with
 | ok a S=>exact⟨a,S,rfl,h⟩
 | ex _ _=>exact h.elim
 | no=>exact h.elim
def sy{α β:Type}{o:Option β}{f:β->R α}{a:α}(h:opt o f=.ok a S):∃b,o=some b/\f b=.ok a S:=by
 cases o with
 | none=>cases h
 | some b=>exact⟨b,rfl,h⟩
abbrev jS (s:Src)(g:Tg)(t:Te)(e:Ex):Nat->Nat->ae->iH->R (ae)
 | 0,_=>λ_ S=>if s.fin S then .ok [] S else .no
 | k+1,i=>λτ S=>opt (s.get i S) λx=>(g x τ S).jh λτ1 S1=>(t τ1 S1).jh λb S2=>match b with
  | true=>(e τ1 S2).jh λy S3=>(jS s g t e k (i+1) τ1 S3).jh λys S4=>.ok (y::ys) S4
  | false=>jS s g t e k (i+1) τ1 S2
abbrev lH (cap:List<|bo)(τ:ae):ae:=cap.map λo=>match o with
 | some j=>τ.getD j .unb
 | none=>.unb
abbrev jE (cap:List<|bo)(src:Ic)(g:Tg)(t:Te)(e:Ex):Ex:=λτ S=>(src τ S).bind λs S1=>(jS s g t e s.k 0 (lH cap τ) S1).jh λys S2=>newL ys S2
abbrev jK:Te:=λ_ S=>.ok true S
def zo{s:Src}{g:Tg}{t:Te}{e:Ex}{k:Nat}{T:Prop}(h:jS s g t e (k+1) i τ S=.ok zs S')
  (q:∀x τ1 S1 b S2,s.get i S=some x->g x τ S=.ok τ1 S1->t τ1 S1=.ok b S2->(b=true->∃y S3 ws,e τ1 S2=.ok y S3/\jS s g t e k (i+1) τ1 S3=.ok ws S'/\zs=y::ws)->(b=false->jS s g t e k (i+1) τ1 S2=.ok zs S')->T):T:=by
 obtain⟨x,hx,h⟩:=sy h;obtain⟨τ1,S1,h1,h⟩:=ja h;obtain⟨b,S2,h2,h⟩:=ja h;mg_lt
 ·subst hb;obtain⟨y,S3,d,h⟩:=ja h;obtain⟨ws,S4,f,h⟩:=ja h
  cases h
  exact⟨y,S3,ws,d,f,rfl⟩
 ·subst hb;exact h
structure Out (ρ1:bd)(H1:Hp)(D:aq)(accV:List V)(ρ:bd)(H:Hp):Prop where
 e0:Ext0 ρ1 ρ H1 H
 fr:∀a u,a≠D->H1 a=some u->a∉ρ1->H a=some u
 nw:∀a∈ρ,a∈ρ1\/H1 a=none
 nD:D∉ρ
 hD:H D=some (.lst accV)
def Out.stay{H1 M H7:Hp}(o:Out ρ1 H1 D accV ρ3 M)(L:H1 D=none)(J:Ext ρ3 ρ7 M H7):Out ρ1 H1 D accV ρ7 H7:=by
 refine⟨⟨o.e0.pre.trans J.pre,λa u i h=>J.im a u i<|o.e0.im a u i h⟩,λa u na d f=>J.fr a u (o.fr a u na d f) λz=>(o.nw a z).elim f λz=>by(rw[z]at d;cases d),λa g=>?_,λz=>(J.nw D z).elim o.nD λz=>by(rw[o.hD]at z;cases z),J.fr D _ o.hD o.nD⟩;by_cases hr:a∈ρ1
 ·exact .inl hr
 ·right
  cases q:H1 a with
  | none=>rfl
  | some u=>
   have j:a≠D:=iQ q L
   rcases J.nw a g with z|z
   ·exact((o.nw a z).elim hr λz=>by(rw[z]at q;cases q)).elim
   ·rw[o.fr a u j q hr]at z;cases z
def Out.put{H1 H:Hp}(o:Out ρ1 H1 D accV ρ H)(ex:Ext0 ρ ρ H<|upd H D<|.lst vs):Out ρ1 H1 D vs ρ (upd H D<|.lst vs):=
 ⟨⟨o.e0.pre,λa u i h=>ex.im a u i<|o.e0.im a u i h⟩,λa u na f d=>by rw[iG na];exact o.fr a u na f d,o.nw,o.nD,i7⟩
def Out.end{H1 H:Hp}{D:aq}(o:Out ρ1 H1 D accV ρ H)(j:H1 D=none):Ext ρ1 (ρ++[D]) H1 H:=by
 refine⟨⟨o.e0.pre.trans<|dz _ _,o.e0.im⟩,λa u d na=>o.fr a u (iQ d j) d na,λa f=>?_⟩
 rcases bA.mp f with z|z
 ·exact o.nw a z
 ·have:a=D:=by simpa using z
  rw[this];exact .inr j
abbrev Cq (K:aA)(ρ1:bd)(H1:Hp)(D:aq)(ys:ae)(k:Nat)(E:bd->Hp->Prop)(P:Nat->Nat->ae->iH->ae->Prop)(i m:Nat)(σ:L2.St)(H:Hp):Prop:=
 m+i=k/\∃ρ S τ acc zs accV,Out ρ1 H1 D accV ρ H/\E ρ H/\Rel K ρ H S/\SR K ρ H τ σ/\AVs K ρ H acc accV/\P m i τ S zs/\acc++zs=ys
section
variable {K:aA}{ρ1 ρ:bd}{H1 H:Hp}{D:aq}{ys acc zs:ae}{accV:List V}{k i m:Nat}{E:bd->Hp->Prop}{P:Nat->Nat->ae->iH->ae->Prop}{σ:L2.St}{S:iH}{τ:ae}
def Cq.el{T:Prop}(h:Cq K ρ1 H1 D ys k E P i m σ H)(q:∀ρ S τ acc zs accV,m+i=k->Out ρ1 H1 D accV ρ H->E ρ H->Rel K ρ H S->SR K ρ H τ σ->AVs K ρ H acc accV->P m i τ S zs->acc++zs=ys->T):T:=by
 obtain⟨hm,ρ,S,τ,acc,zs,accV,h1,h2,f,g,d,h6,j⟩:=h;exact q ρ S τ acc zs accV hm h1 h2 f g d h6 j
def Cq.of(hm:m+i=k)(o:Out ρ1 H1 D accV ρ H)(e:E ρ H)(R:Rel K ρ H S)(r:SR K ρ H τ σ)(v:AVs K ρ H acc accV)(p:P m i τ S zs)(q:acc++zs=ys):Cq K ρ1 H1 D ys k E P i m σ H:=⟨hm,ρ,S,τ,acc,zs,accV,o,e,R,r,v,p,q⟩
end
abbrev JK (K:aA)(c:Ex):TE:=λσ H Q=>∃ρ S τ a d,Rel K ρ H S/\SR K ρ H τ σ/\c τ S=.ok a d/\∀ρ' H' v,Ext ρ ρ' H H'->Rel K ρ' H' d->AV K ρ' H' a v->Q v H'
abbrev HJ (K:aA)(c:Te):TT:=λσ H Q=>∃ρ S τ a d,Rel K ρ H S/\SR K ρ H τ σ/\c τ S=.ok a d/\∀ρ' H',Ext ρ ρ' H H'->Rel K ρ' H' d->Q a H'
abbrev Jl (K:aA)(g:Tg):TG:=λv σ H Q=>∃ρ S τ a f j,Rel K ρ H S/\SR K ρ H τ σ/\AV K ρ H a v/\g a τ S=.ok f j/\∀ρ' H' d,Ext ρ ρ' H H'->Rel K ρ' H' j->SR K ρ' H' f d->Q d H'
section
variable {X:Cx}{pos:Pos}{tg iter elt e:aF}{ifs:List aF}{scope:Scope}{N:ar}{cap:List (bo)}{src:Ic}{g:Tg}{t:Te}{c:Ex}
def AE.e0{K:aA}(hK:X.K=K)(h:AE X e c):PE X e (JK K c):=PE.imp h λσ H Q ⟨ρ,S,τ,a,g,R,r,hc,q⟩=>⟨ρ,S,τ,by rw[hK];exact R,by rw[hK];exact r,by rw[hc];exact λρ' H' v e f d=>q ρ' H' v e (by rw[<- hK];exact f)<|by rw[<- hK];exact d⟩
def AT.t0{K:aA}(hK:X.K=K)(h:AT X e t):PT X e (HJ K t):=PT.imp h λσ H Q ⟨ρ,S,τ,a,f,R,r,hc,q⟩=>⟨ρ,S,τ,by rw[hK];exact R,by rw[hK];exact r,by rw[hc];exact λρ' H' e d=>q ρ' H' e<|by rw[<- hK];exact d⟩
def AG.g0{K:aA}(hK:X.K=K)(h:AG X e g):PG X e (Jl K g):=by
 subst hK;refine PG.imp h λv σ H Q h9=>?_;obtain⟨ρ,S,τ,a,d,f,R,r,va,hc,q⟩:=h9;exact⟨ρ,S,τ,a,R,r,va,by rw[hc];exact q⟩
abbrev Mf (X:Cx)(ifs:List aF)(t:Te):Prop:=zO X ifs<|HJ X.K t
def kF:Mf X [] jK:=λpins s σ H Q I ⟨ρ,S,τ,a,d,R,r,hc,q⟩=>JX pins s σ H Q I<|by cases hc;exact q ρ H .refl R
def A5(h:AT X e t):Mf X [e] t:=Lg<|h.t0 rfl
def HQ{K:aA}{H:Hp}(r:SR K ρ H τ σ)(cap:List<|bo):SR K ρ H (lH cap τ) (cap.map<|Gz σ):=by
 refine⟨by simp[lH],λi a h=>?_⟩;unfold lH at h;rw[aY]at h;obtain⟨o,f,e⟩:=bu.mp h
 cases o with
 | none=>exact .inl e.symm
 | some j=>
  have e:τ.getD j .unb=a:=e
  cases d:τ[j]? with
  | none=>rw[aI,d]at e;exact .inl e.symm
  | some b=>
   rw[aI,d]at e;have e:b=a:=e;subst e
   rcases r.at j b d with z|⟨v,h1,h2⟩
   ·exact .inl z
   ·exact .inr ⟨v,by rw[aY,f];show some ((σ[j]?).getD none)=_;rw[h1];rfl,h2⟩
def Rel.yw{K:aA}{H:Hp}{p:aq}(R:Rel K ρ H S)(hp:H p=none):p∉ρ:=λhm=>by
 obtain⟨n,hn,e⟩:=dN.mp hm;have g:n<S.length:=by rw[<- R.len];exact hn
 have:=R.at n p S[n] (by rw[aH hn,e]) (aH g)
 cases d:S[n]with
 | lst xs=>rw[d]at this;obtain⟨f,h,_⟩:=this;rw[hp]at h;cases h
 | dct _|m_ _|dks _|dcp _=>rw[d]at this;obtain⟨f,h,_⟩:=this;rw[hp]at h;cases h
 | dcf _|dkf _=>rw[d]at this;obtain⟨_,f,h,_⟩:=this;rw[hp]at h;cases h
 | ins _ _=>rw[d]at this;obtain⟨_,_,h⟩:=this;rw[hp]at h;cases h
def zp(σ:L2.St)(H:Hp)(Q:VK)(h:tE X (jE cap src g t c) σ H Q):Qi cap (tI X src) (Jl X.K g) (HJ X.K t) (JK X.K c) σ H Q:=by
 kl_no;refine⟨ρ,S,τ,R,r,iE (iI h) .refl λs S1 h1 ρ1 H1 J e1 Y W D hD=>?_⟩;obtain⟨ys,S2,P,h1⟩:=qR h1;obtain⟨F,h1⟩:=i9 h1;have h1:tY X ρ H Q (.ref S2.length) (S2++[.lst ys]):=h1;obtain⟨Z,RD⟩:=Y.im (u:=.lst []) hD;refine⟨Cq X.K ρ1 H1 D ys s.k (λ_ _=>True) λm i τ S zs=>jS s g t c m i τ S=.ok zs S2,⟨s.k,.of rfl ⟨Z.toExt0,λa u na hu _=>by rw[iG na];exact hu,λa ha=>.inl ha,Y.yw hD,i7⟩ trivial RD (HQ ((r.ext e1).ext Z) cap) .nil P rfl⟩,?_⟩;intro i m σ3 U hw;refine hw.el λρ3 S3 τ3 acc zs accV hm B _ V r3 j d f=>?_;clear hw
 cases m with
 | zero=>
  left;have d:(if s.fin S3 then Am.R.ok [] S3 else .no)=.ok zs S2:=d
  cases hf:s.fin S3 with
  | false=>rw[hf]at d;cases d
  | true=>
   rw[hf]at d
   cases d
   rw[bI]at f;subst f;refine⟨by rw[show i=s.k by lia];exact W.stop _ U ρ3 B.e0 V hf,?_⟩;obtain⟨RT,gt⟩:=V.take B.hD B.nD j;exact h1 (ρ3++[D]) U _ (e1.trans<|B.end hD) RT<|.ref gt
 | succ m=>
  right;refine zo d λx τ4 S4 b S5 hx hg4 ht5 hT hF=>?_;have jg:=W.go i S3 U ρ3 x B.e0 V hx;refine⟨jg.1,λv H4 y=>?_⟩;obtain⟨e4,R4,v4⟩:=jg.2 v H4 y;gp_on;have z:=(e4.trans e5).trans e6
  cases b with
  | false=>
   dsimp only;rw[aU bg];exact⟨m,bE _,.of () (B.stay hD z) trivial R6 (r5.ext e6) (j.ext z) (hF rfl) f⟩
  | true=>
   dsimp only;rw[aS rfl];obtain⟨y,S6,ws,N,M,G⟩:=hT rfl;refine⟨ρ6,S5,τ4,y,S6,R6,r5.ext e6,N,λρ7 H7 w O R7 v7=>?_⟩;have L:=B.stay hD<|z.trans O;obtain⟨C,R8⟩:=R7.out (ws:=accV++[w]) L.hD L.nD;have l1:=j.length;refine⟨accV,L.hD,?_,m,bE _,.of () (L.put C) trivial R8 ((r5.ext<|e6.trans O).jA C) (AVs.jA C<|(j.ext<|z.trans O).append<|.one v7) M ?_⟩
   ·have:(acc++zs).length<=sizeLine:=by rw[f];exact F
    rw[G,aV,bw]at this
    lia
   ·rw[br,<- f,G];rfl
def l9(hc:X.calm=true)(j:CpScope X scope N cap)(hi:AI X tg iter src)(hg:∀C s₀ H₀ ex,AG (iZ X scope N C s₀ H₀ ex) tg g)(J:∀C s₀ H₀ ex,Mf (iZ X scope N C s₀ H₀ ex) ifs t)(L:∀C s₀ H₀ ex,AE (iZ X scope N C s₀ H₀ ex) elt c)
  (hs:(∀x,foldedSetIterable iter X.env x=pure x)<|>ζ):AE X (.ListComp elt [⟨tg,iter,ifs,0⟩] scope pos) (jE cap src g t c):=
 PE.imp (Pe hc j hi (g:=Jl X.K g) (tc:=HJ X.K t) (te:=JK X.K c) (λC s₀ H₀ ex=>(hg C s₀ H₀ ex).g0 rfl) (λC s₀ H₀ ex=>J C s₀ H₀ ex) (λC s₀ H₀ ex=>(L C s₀ H₀ ex).e0 rfl) hs) zp
def K2{i:Nat}{x:Str}{j:Pos}(M:X.N.Nodup)(hc:X.calm=true)(U:CpScope X scope N cap)(hi:AI X tg iter src)(hg:∀C s₀ H₀ ex,AG (iZ X scope N C s₀ H₀ ex) tg g)(Z:∀C s₀ H₀ ex,Mf (iZ X scope N C s₀ H₀ ex) ifs t)(he:∀C s₀ H₀ ex,AE (iZ X scope N C s₀ H₀ ex) elt c)
  (J:X.N[i]?=some x<|>ε) (hx:Loc X.env.scope x:=by first|exact Or.inl rfl|exact Or.inr rfl)
  (L:(swapsWith (.ListComp elt [⟨tg,iter,ifs,0⟩] scope pos) (some<|.Name x pos') j.line X.env=pure true)<|>ε) (hf:X.fn x=true\/X.env.scope.names.lookup x=some .local<|>γ)
  (hs:(∀x,foldedSetIterable iter X.env x=pure x)<|>ζ):AS X (.Assign [.Name x pos'] (.ListComp elt [⟨tg,iter,ifs,0⟩] scope pos) j) (jn (jE cap src g t c)<|je i):=
 PS.imp (FN M J hx hc U hi (g:=Jl X.K g) (tc:=HJ X.K t) (te:=JK X.K c) (λC s₀ H₀ ex=>(hg C s₀ H₀ ex).g0 rfl) (λC s₀ H₀ ex=>Z C s₀ H₀ ex) (λC s₀ H₀ ex=>(he C s₀ H₀ ex).e0 rfl) L hf hs) λD σ H ⟨ρ,S,τ,R,r,h⟩=>
  zp σ H _ ⟨ρ,S,τ,R,r,iE (of_post h) .refl λa S1 h1 ρ1 H1 x e1 d f=>h1 ρ1 H1 _ e1 d<|(r.ext e1).set f⟩
end
abbrev A.lst? (S:iH):A->Option (ae)
 | .ref n=>iC S n
 | _=>none
abbrev Jp (f:A->ae->iH->R A)(co:Ex)(d:n8):Ex:=λτ S=>(co τ S).bind λo S1=>opt (o.lst? S1) λ_=>(d τ S1).bind λg S2=>f o g S2
abbrev Nv (f:A->ae->iH->R A)(co:Ex):Ex:=λτ S=>(co τ S).bind λo S1=>opt (o.lst? S1) λ_=>f o [] S1
abbrev rM (X:Cx)(f:A->ae->iH->R A):V->List V->Hp->VK->Prop:=λx g H Q=>∃ρ S o d,Rel X.K ρ H S/\AV X.K ρ H o x/\AVs X.K ρ H d g/\(f o d S).post (tY X ρ H Q) (XE X ρ H)
section
variable {X:Cx}{apos cpos:Pos}{o e:aF}{es:List aF}{name:Str}{id:String}{f:A->ae->iH->R A}{co:Ex}{d:n8}
def lst?_ty{K:aA}{H:Hp}{x:A}{v:V}(R:Rel K ρ H S)(h:AV K ρ H x v)(e:x.lst? S=some xs):QB K "list" v H:=by
 cases h with
 | ref h=>
  obtain⟨d,h1,_⟩:=R.lst h<|iP e;exact .inl ⟨rfl,d,j5.of h1⟩
 | _=>cases e
def u_(slot:Slot "list" name id)(Z:typeOf (.builtin id)=pure (.type "method_descriptor"))(hm:Mc X id<|rM X f)(ho:AE X o co)(ha:AL X (e::es) d)
  (L:attributeBase o name X.env (eval o X.env)=eval o X.env<|>ε)
  (U:(((backTo cpos<|starEach (e::es) X.env).all (λx=>!x.1) && (backToKw cpos<|keywordEach [] X.env).all (λx=>x.1.isSome)
   && decide ((e::es).length+([]:List Keyword).length+(if ([]:List Keyword).isEmpty then 0 else 1)<30))=true)<|>ε)
  (M:(apos.endLine == cpos.line)=true<|>ε) (hs:starEach (e::es) X.env=(false,eval e X.env)::starEach es X.env<|>ε) (J:((backTo cpos<|starEach es X.env).any (·.1)=false)<|>ε) :
  AE X (.Call (.Attribute o name apos) (e::es) [] cpos) (Jp f co d):=PE.imp (LQ PySem.F.plainAttrs_list slot Z hm ho ha L U M hs J) λσ H Q h9=>by
 z_go;refine⟨ρ,S,τ,R,r,iE (iI h) .refl λx S1 h1 ρ1 H1 v e1 j k=>?_⟩;obtain⟨xs,hx,h1⟩:=iK h1;refine⟨lst?_ty j k hx,ρ1,S1,τ,j,r.ext e1,iE (iI h1) e1 λt S2 h2 g H2 B e2 R2 m=>?_⟩;exact⟨g,S2,x,t,R2,k.ext e2,m,iE h2 (e1.trans e2) λ_ _ z=>z.ext<|e1.trans e2⟩
def M_(slot:Slot "list" name id)(L:typeOf (.builtin id)=pure (.type "method_descriptor"))(hm:Mc X id<|rM X f)(M:AE X o co)
  (j:attributeBase o name X.env (eval o X.env)=eval o X.env<|>ε) (J:(apos.endLine == cpos.line)=true<|>ε):AE X (.Call (.Attribute o name apos) [] [] cpos) (Nv f co):=PE.imp (Nb PySem.F.plainAttrs_list slot L hm M j J) λσ H Q h9=>by
 z_go;refine⟨ρ,S,τ,R,r,iE (iI h) .refl λx S1 h1 ρ1 H1 v e1 g d=>?_⟩;obtain⟨xs,hx,h1⟩:=iK h1;exact⟨lst?_ty g d hx,ρ1,S1,x,[],g,d,.nil,iE h1 e1 λ_ _ z=>z.ext e1⟩
abbrev lE (o:A)(j:ae)(S:iH):R A:=match o,j with
 | .ref n,[x]=>opt (iC S n) λxs=>gd (xs.length<sizeLine) (.ok .non<|S.set n<|.lst<|xs++[x])
 | _,_=>.no
def mJ:Mc X "list.append" (rM X lE):=λpins s σ H x t v us Q I rx m h9=>by
 obtain⟨ρ,S,o,j,R,d,va,h⟩:=h9
 cases d with
 | @ref p n hp=>
  match j,va,h with
  | [],_,h=>exact h.elim
  | _::_::_,_,h=>exact h.elim
  | [y],va,h=>
   obtain⟨w,rfl,hw⟩:=Oj va;gn_on;obtain⟨k,h⟩:=i9 h;obtain⟨f,h1,r⟩:=R.lst hp<|iP hn;obtain⟨ex,g⟩:=R.put hp (iP hn)<|r.append<|.one hw;exact sS pins s σ H _ _ v us Q I rx m ⟨p,f,w,rfl,rfl,h1,by rw[<- r.length];exact k,h _ _ _ ex g .non⟩
 | _=>exact h.elim
abbrev OM (o:A)(j:ae)(S:iH):R A:=match o,j with
 | .ref n,[]=>opt (iC S n) λxs=>opt (xs[xs.length-1]?) λx=>.ok x (S.set n<|.lst xs.dropLast)
 | _,_=>.no
def AVs.dropLast{K:aA}{H:Hp}{xs:ae}{vs:List V}(r:AVs K ρ H xs vs):AVs K ρ H xs.dropLast vs.dropLast:=by
 rw[List.dropLast_eq_take,List.dropLast_eq_take,r.length];exact r.take _
def QG:Mc X "list.pop" (rM X OM):=λpins s σ H x t v us Q I rx m h9=>by
 obtain⟨ρ,S,o,k,R,d,va,h⟩:=h9
 cases d with
 | @ref p n hp=>
  match k,va,h with
  | _::_,_,h=>exact h.elim
  | [],va,h=>
   cases va
   gn_on;obtain⟨y,hy,h⟩:=iK h;obtain⟨g,h1,r⟩:=R.lst hp<|iP hn;obtain⟨w,hw,f⟩:=r.get hy;obtain⟨ex,j⟩:=R.put hp (iP hn) r.dropLast;exact N9 pins s σ H _ _ v us Q I rx m ⟨p,g,w,rfl,rfl,h1,by rw[<- r.length];exact hw,h _ _ _ ex j<|f.ext ex⟩
 | _=>exact h.elim
end
abbrev lu (N:ar)(m:Sm)(j:ae)(S:iH):R A:=match m (j++List.replicate (N.length-j.length) .unb) S with
 | .rt a d=>.ok a d
 | .nx _ d=>.ok .non d
 | .ex c d=>.ex c d
 | _=>.no
abbrev qU (K:aA)(n:Nat)(F:ae->iH->R A):Sp:=λg H Q _=>g.length=n/\∃ρ S f a d,Rel K ρ H S/\AVs K ρ H f g/\F f S=.ok a d/\∀ρ' H' v,Ext ρ ρ' H H'->Rel K ρ' H' d->AV K ρ' H' a v->Q v H'
def KZ{K:aA}{H:Hp}{j:ae}(r:AVs K ρ H j vs)(N:ar):SR K ρ H (j++List.replicate (N.length-j.length) .unb) (L2.start N vs):=by
 have d:=r.length;refine⟨by unfold L2.start;simp[d],λi a h=>?_⟩;by_cases hi:i<j.length
 ·rw[aR hi]at h;obtain⟨v,hv,f⟩:=r.get h;exact .inr ⟨v,by unfold L2.start;rw[aR<|by simp;lia,aY,hv];rfl,f⟩
 ·rw[bX (),fJ]at h;split at h
  ·exact .inl (aW h).symm
  ·cases h
section
variable {P:ah}{w:af}{K:aA}{mg:Str->bi}{base:au}
def vd{x:Str}{st:aG}{f:aq}{N ps:ar}{k:Nat}{m:Sm}(F:Fun K x qual st f fd)(L:FnScope N ps<|iT st)
  (J:∀(cdv:aa) (A:aC) (outer:List Env) (s:aE) (H:Hp) (E:XK),Room k (A.deeper<|envOfC qual (iT st) s.heap.objs.size f cdv)->JA (AF qf P w K mg base N qual (iT st) f cdv A outer s H E).Pu (ni st) m) :
  FnOk P w K mg base qf (k+1) f fd ps (qU K ps.length<|lu N m):=by
 refine F.ok L (λz H Q E h=>h.1) λcdv B outer s H z Q E hr ⟨C,ρ,S,g,a,G,R,va,d,q⟩=>⟨_,J cdv B outer s H E hr,ρ,S,_,R,KZ va N,?_⟩;unfold lu at d
 cases hm:m (g++List.replicate (N.length-g.length) .unb) S with
 | rt b S2=>rw[hm]at d;cases d;exact q
 | nx τ S2=>rw[hm]at d;cases d;exact λρ' H' j e t _=>q ρ' H' _ e t .non
 | bk τ S2=>rw[hm]at d;cases d
 | ct τ S2=>rw[hm]at d;cases d
 | ex c S2=>rw[hm]at d;cases d
 | no=>rw[hm]at d;cases d
end
meta abbrev tB (P:ah)(w:af)(K:aA)(mg:Str->bi)(base:au)(k:Nat)(x:Str)(ps:ar)(F:ae->iH->R A):Prop:=Kn P w K mg base k x ps<|qU K ps.length F
abbrev eFn (F:ae->iH->R A)(d:n8):Ex:=λτ S=>(d τ S).bind λf S1=>match F f S1 with
 | .ok a S2=>.ok a S2
 | _=>.no
section
variable {X:Cx}{pos p:Pos}{e:aF}{es:List aF}{x:Str}{ps:ar}{k:Nat}{F:ae->iH->R A}{d:n8}
def Lk(G:tB X.prog X.w X.K X.mg X.base k x ps F)(hr:Room k X.A)(M:AL X (e::es) d)(U:∀τ S as S',d τ S=.ok as S'->as.length=ps.length)(hg:Gl X x<|>ε)(L:(x == ("__debug__" : Str))=false<|>δ)
  (hs:starEach (e::es) X.env=(false,eval e X.env)::starEach es X.env<|>ε) (J:((backTo pos<|starEach es X.env).any (·.1)=false)<|>ε):AE X (.Call (.Name x p) (e::es) [] pos) (eFn F d):=
 PE.imp (PD G hr M hg L hs J) λσ H Q h9=>by
  z_go;refine⟨ρ,S,τ,R,r,?_⟩;have hb:=iI h
  cases hd:d τ S with
  | no=>rw[hd]at hb;exact hb
  | ex c S1=>rw[hd]at hb;exact hb
  | ok as S1=>
   rw[hd]at hb;intro ρ1 H1 t e1 m j;rw[bI];refine⟨by rw[<- j.length];exact U τ S as S1 hd,ρ1,S1,as,?_⟩;have hb:Am.R.post (match F as S1 with
    | .ok a S2=>.ok a S2
    | _=>.no) (tY X ρ H Q) (XE X ρ H):=hb
   cases g:F as S1 with
   | ok a S2=>rw[g]at hb;exact⟨a,S2,m,j,rfl,λf H2 v e2=>hb f H2 v<|e1.trans e2⟩
   | ex c S2=>rw[g]at hb;exact hb.elim
   | no=>rw[g]at hb;exact hb.elim
def BL:∀τ S as S',iO τ S=.ok as S'->as.length=0:=λτ S as S' h=>by cases h;rfl
def u5{c:Ex}{d:n8}{n:Nat}(h:∀τ S as S',d τ S=.ok as S'->as.length=n):∀τ S as S',iD c d τ S=.ok as S'->as.length=n+1:=λτ S as S' e=>by
 unfold iD at e
 cases hc:c τ S with
 | ok a S1=>
  rw[hc]at e
  cases hd:d τ S1 with
  | ok bs S2=>
   have e:R.bind (d τ S1) (λas S2=>.ok (a::as) S2)=.ok as S':=e;rw[hd]at e;cases e;rw[bw,h τ S1 bs _ hd]
  | ex _ _=>
   have e:R.bind (d τ S1) (λas S2=>.ok (a::as) S2)=.ok as S':=e;rw[hd]at e;cases e
  | no=>
   have e:R.bind (d τ S1) (λas S2=>.ok (a::as) S2)=.ok as S':=e;rw[hd]at e;cases e
 | ex _ _=>rw[hc]at e;cases e
 | no=>rw[hc]at e;cases e
end
section
variable {X:Cx}{pos:Pos}{a b c:aF}
abbrev TX (j:A->A->iH->R A)(cc:Ex)(τ:ae)(b k:A)(S:iH):R A:=match k with
 | .bl true=>(cc τ S).bind λc S4=>j b c S4
 | .bl false=>.ok (.bl false) S
 | _=>.no
abbrev O6 (f j:A->A->iH->R A)(ca cb cc:Ex):Ex:=λτ S=>(ca τ S).bind λa S1=>(cb τ S1).bind λb S2=>(f a b S2).bind λk S3=>TX j cc τ b k S3
def Nc{f U:A->A->iH->R A}{ca cb cc:Ex}{H:Hp}{Q:VK}(h:tE X (O6 f U ca cb cc) σ H Q):GJ (r2 X f) (r2 X U) (tE X ca) (tE X cb) (tE X cc) σ H Q:=by
 kl_no;refine⟨ρ,S,τ,R,r,iE (iI h) .refl λa S1 h1 ρ1 H1 x e1 G L=>⟨ρ1,S1,τ,G,r.ext e1,iE (iI h1) e1 λb S2 h2 j H2 y e2 R2 B=>?_⟩⟩;have g:=e1.trans e2;refine⟨j,S2,a,b,R2,L.ext e2,B,iE (iI h2) g λk S3 t ρ3 K z F C J=>?_⟩;have d:=g.trans F
 cases k with
 | bl k=>
  cases yk J
  refine⟨k,rfl,?_⟩
  cases k with
  | true=>
   rw[aS rfl];exact⟨ρ3,S3,τ,C,r.ext d,iE (iI t) d λc S4 M m N w e4 R4 v4=>⟨m,S4,b,c,R4,B.ext<|F.trans e4,v4,iE M (d.trans e4) λ_ _ q=>q.ext<|d.trans e4⟩⟩
  | false=>
   rw[aU bg];exact t ρ3 K _ d C<|.bl false
 | _=>exact t.elim
def Px{f J:A->A->iH->R A}{ca cb cc:Ex}(L:l8 X (compareOp op)<|r2 X f)(j:l8 X (compareOp op')<|r2 X J)(M:AE X a ca)(hb:AE X b cb)(hc:AE X c cc)(hm:lastMarks [op,op'] [b,c]=false<|>η) :
  AE X (.Compare a [op,op'] [b,c] pos) (O6 f J ca cb cc):=PE.imp (Ie L j M hb hc hm) λ_ _ _ h=>Nc h
abbrev PK (S:iH)(x:A):ae->bn
 | []=>some false
 | z::zs=>(v_ S 12 z x).bind λp=>(PK S x zs).map λq=>p || q
abbrev Sa (j:Bool)(x y:A)(S:iH):R A:=opt (y.seq S) λys=>opt (PK S x ys) λb=>.ok (.bl<|if j then !b else b) S
def Br{H:Hp}{x:A}{v:aa}(I:Inv X pins σ H s)(R:Rel X.K ρ H S)(J:X.A.units+64<cLine)(hx:AV X.K ρ H x vx)(rx:RelV vx v) :
  ∀{ys:ae} {us:List V} {its:ba} {b:Bool},AVs X.K ρ H ys us->Vals us its->PK S x ys=some b->∃e:aa->Bool,(∀w∈its,SeqAt.EqAt X.A.in1 s w v<|e w)/\its.any e=b:=by
 intro ys
 induction ys with
 | nil=>
  intro us its b h1 h2 h
  cases h1
  cases h2
  exact⟨λ_=>false,(λw hw=>by cases hw),aW h⟩
 | cons z zs m=>
  intro us its b h1 h2 h
  cases h1 with
  | cons C k=>
   rename_i u us
   cases h2 with
   | cons r B=>
    rename_i f its
    classical
    obtain⟨p,hp,h⟩:=bR.mp h;obtain⟨q,F,h⟩:=bu.mp h;obtain⟨e,g,j⟩:=m k B F;have h0:=(AU I R 12 X.A.in1 z x u vx f v p (by rw[in1_units];omega) C hx r rx hp).2.1;subst h
    cases p with
    | true=>
     refine⟨λw=>if w=f then true else e w,λw hw=>?_,?_⟩
     ·by_cases d:w=f
      ·dsimp[d,eE];exact h0
      ·dsimp[d,c_]
       rcases a_.mp hw with z|z
       ·exact absurd z d
       ·exact g w z
     ·simp
    | false=>
     by_cases hm:f∈its
     ·refine⟨e,λw hw=>?_,?_⟩
      ·rcases a_.mp hw with z|z
       ·rw[z];exact g f hm
       ·exact g w z
      ·rw[eN,j,Bool.false_or]
       cases q with
       | true=>simp
       | false=>
        have:=List.any_eq_false.mp j f hm;simpa using this
     ·refine⟨λw=>if w=f then false else e w,λw hw=>?_,?_⟩
      ·by_cases d:w=f
       ·dsimp[d,eE];exact h0
       ·dsimp[d,c_]
        rcases a_.mp hw with z|z
        ·exact absurd z d
        ·exact g w z
      ·rw[eN,<- j];dsimp[eE,Bool.false_or];have:∀l:ba,(∀w∈l,w≠f)->l.any (λw=>if w=f then false else e w)=l.any e:=λl t=>by
        induction l with
        | nil=>rfl
        | cons c l m=>rw[eN,eN,m λw hw=>t w<|aK _ hw,aU<|t c<|aM ..]
       exact this its λw hw z=>hm<|z ▸ hw
def Rn(J:X.A.units+64<cLine):l8 X (compareOp .In) (r2 X<|Sa false):=λpins s σ H x y v u Q I rx ry h9=>by
 x_go;obtain⟨ys,hy,h⟩:=iK h;obtain⟨k,t,h⟩:=iK h;obtain⟨p,us,rfl,hs,r⟩:=II R vb hy
 cases ry
 rcases hs with hs|hs
 ·obtain⟨d,m,j,z⟩:=I.list hs;obtain⟨e,g,f⟩:=Br I R J va rx r m t;refine SeqAt.in_listAt e j.isList (λw hw=>g w<|by simpa using hw) ⟨.bl _,H,I,rfl,?_⟩;rw[show d.toArray.any e=d.any e by simp,f];exact h _ _ _ .refl R (.bl _)
 ·obtain⟨d,m,j,z⟩:=I.tuple hs;obtain⟨e,g,f⟩:=Br I R J va rx r m t;refine SeqAt.in_tupleAt e j (λw hw=>g w<|by simpa using hw) ⟨.bl _,H,I,rfl,?_⟩;rw[show d.toArray.any e=d.any e by simp,f];exact h _ _ _ .refl R<|.bl _
end
section
variable {X:Cx}
abbrev Eg (x:A)(S:iH):R A:=match x with
 | .ref n=>opt (iC S n) λxs=>opt (A.ints xs) λd=>.ok (.int d.sum) S
 | _=>.no
def Lm(hc:X.calm=true):jj X (.builtin "sum") (rN X<|f1 Eg):=jj.imp (Dp hc) λf H Q h0=>by
 kcf_m;clear h0
 cases hv with
 | @ref p n hp=>
  gn_on;obtain⟨d,hb,h⟩:=iK h;obtain⟨f,h1,r⟩:=R.lst hp<|iP hn;rw[oR r hb]at h1;exact⟨p,d,rfl,j5.of h1,h _ _ _ .refl R<|.int _⟩
 | _=>exact h.elim
end
abbrev jJ (S:iH)(n:Nat):Option (List<|ag×A):=match S[n]? with
 | some (.dct xs)=>some xs
 | _=>none
def jF{n:Nat}(h:jJ S n=some xs):S[n]?=some (.dct xs):=by
 unfold jJ at h;split at h
 ·rename_i e;cases h;exact e
 ·cases h
def rJ{S:iH}{n:Nat}(h:S[n]?=some (.dct xs)):jJ S n=some xs:=by
 unfold jJ;rw[h]
abbrev j3 (kvs:List<|ag×A)(k:ag):Option A:=(kvs.find? λd=>decide<|d.1=k).map (·.2)
abbrev putD (kvs:List<|ag×A)(k:ag)(v:A):List (ag×A):=
 if (j3 kvs k).isSome=true then kvs.map (λd=>if d.1=k then(d.1,v)else d)else kvs++[(k,v)]
theorem xO:∀{a b:ag},a.map (Sum.inl:Int->Key)=b.map Sum.inl->a=b
 | [],[],_=>rfl
 | [],_::_,e=>by simp at e
 | _::_,[],e=>by simp at e
 | x::xs,y::ys,e=>by
  rw[bD,bD]at e
  injection e with e1 e2
  injection e1 with e1
  rw[e1,xO e2]
def r6(ns:ag):(ns.map (Sum.inl:Int->Key)).map kV=ns.map V.int:=by rw[bM];rfl
section
variable {K:aA}{ρ:bd}{H:Hp}
def wG{p:ag×A}{r:List<|ag×A}{k:ag}(e:p.1=k):j3 (p::r) k=some p.2:=by simp[j3,cC,e]
def vX{p:ag×A}{r:List<|ag×A}{k:ag}(e:¬p.1=k):j3 (p::r) k=j3 r k:=by simp[j3,cC,e]
theorem DV.look:∀{kvs:List<|ag×A}{ks:List<|List Key×V}(k:ag),DV K ρ H kvs ks->(j3 kvs k).isSome=(m7 ks<|k.map Sum.inl).isSome/\∀x,j3 kvs k=some x->∃v,m7 ks (k.map Sum.inl)=some v/\AV K ρ H x v
 | [],[],k,_=>⟨rfl,λx h=>nomatch h⟩
 | p::r,q::r',k,⟨⟨e,a⟩,t⟩=>by
  by_cases c:p.1=k
  ·have d:q.1=k.map Sum.inl:=by rw[e,c]
   rw[wG c,pY d];exact⟨rfl,λx h=>by cases h;exact⟨_,rfl,a⟩⟩
  ·have d:¬q.1=k.map Sum.inl:=λz=>c<|xO<|e.symm.trans z;rw[vX c,pV d];exact DV.look k t
theorem DV.repl{x:A}{v:V}(h:AV K ρ H x v)(k:ag):∀{kvs:List<|ag×A}{ks:List<|List Key×V},DV K ρ H kvs ks->DV K ρ H (kvs.map λkv=>if kv.1=k then(kv.1,x)else kv) (ks.map λkv=>if kv.1=k.map Sum.inl then(kv.1,v)else kv)
 | [],[],_=>trivial
 | p::r,q::r',⟨⟨e,a⟩,t⟩=>by
  refine⟨?_,DV.repl h k t⟩;dsimp only;by_cases c:p.1=k
  ·rw[aS c,aS<|by rw[e,c]];exact⟨e,h⟩
  ·rw[aU c,aU λz=>c<|xO<|e.symm.trans z];exact⟨e,a⟩
theorem DV.snoc{x:A}{v:V}(h:AV K ρ H x v)(k:ag):∀{kvs:List<|ag×A}{ks:List<|List Key×V},DV K ρ H kvs ks->DV K ρ H (kvs++[(k,x)]) (ks++[(k.map Sum.inl,v)])
 | [],[],_=>⟨⟨rfl,h⟩,trivial⟩
 | p::r,q::r',⟨a,t⟩=>⟨a,DV.snoc h k t⟩
def DV.put{x:A}{v:V}(h:AV K ρ H x v)(k:ag){ks:List<|List Key×V}(d:DV K ρ H kvs ks):DV K ρ H (putD kvs k x) (putK ks (k.map Sum.inl) v):=by
 unfold putD putK;rw[qY,<- (d.look k).1];by_cases c:(j3 kvs k).isSome=true
 ·rw[aS c,aS c];exact DV.repl h k d
 ·rw[aU c,aU c];exact DV.snoc h k d
def DV.length:∀{kvs:List<|ag×A}{ks:List<|List Key×V},DV K ρ H kvs ks->kvs.length=ks.length
 | [],[],_=>rfl
 | _::_,_::_,⟨_,t⟩=>cA (·+1) t.length
def Rel.dct{n:Nat}{a:aq}(R:Rel K ρ H S)(j:ρ[n]?=some a)(J:S[n]?=some (.dct xs)):∃vs,H a=some (.dT vs)/\DV K ρ H xs vs:=R.at n a _ j J
def Rel.Sn{S:iH}{p:aq}(R:Rel K ρ H S)(hp:H p=none)(r:DV K ρ H xs vs):Ext ρ (ρ++[p]) H (upd H p<|.dT vs)/\Rel K (ρ++[p]) (upd H p<|.dT vs) (S++[.dct xs])/\(ρ++[p])[S.length]?=some p:=by
 have ex:Ext ρ (ρ++[p]) H (upd H p<|.dT vs):=⟨⟨dz _ _,λa u _ h=>by rw[iG<|iQ h hp];exact h⟩,λa u h _=>by rw[iG<|iQ h hp];exact h,λa h=>by
  rcases bA.mp h with z|z
  ·exact .inl z
  ·have e:a=p:=by simpa using z
   rw[e];exact .inr hp⟩
 have j:p∉ρ:=R.yw hp;have d:(ρ++[p])[S.length]?=some p:=by rw[<- R.len];simp
 refine⟨ex,⟨by simp[R.len],?_,?_⟩,d⟩
 ·rw[cK];refine⟨R.nd,by simp,λa k b hb e=>?_⟩;have:b=p:=by simpa using hb
  exact j<|by rw[<- this,<- e];exact k
 ·intro n a o h1 h2;by_cases hn:n<S.length
  ·rw[aR<|by rw[R.len];exact hn]at h1;rw[aR hn]at h2;have na:a≠p:=λz=>j (by rw[<- z];exact bz h1);have:=R.at n a o h1 h2
   cases o with
   | lst ys=>obtain⟨f,e,q⟩:=this;exact⟨f,by rw[iG na];exact e,q.ext ex⟩
   | dct _|m_ _|dks _|dcp _=>obtain⟨f,e,q⟩:=this;exact⟨f,by rw[iG na];exact e,q.ext ex⟩
   | dcf _|dkf _=>obtain⟨g,f,e,q⟩:=this;exact⟨g,f,by rw[iG na];exact e,q.ext ex⟩
   | ins _ _=>obtain⟨g,m,e⟩:=this;exact⟨g,m,by rw[iG na];exact e⟩
  ·have e:n=S.length:=by
    have:=(aL.mp h2).1;simp at this;omega
   subst e;rw[d]at h1
   cases h1
   simp at h2;subst h2;exact⟨vs,i7,r.ext ex⟩
def Rel.putD{S:iH}{n:Nat}{a:aq}(R:Rel K ρ H S)(J:ρ[n]?=some a)(L:S[n]?=some (.dct xs))(r:DV K ρ H ys ws):Ext ρ ρ H (upd H a<|.dT ws)/\Rel K ρ (upd H a<|.dT ws) (S.set n<|.dct ys):=by
 obtain⟨B,e,_⟩:=R.at n a _ J L;have ex:Ext ρ ρ H (upd H a<|.dT ws):=⟨⟨cN _,λb u i h=>by
  have:b≠a:=by
   intro z;subst z;rw[e]at h;cases h;exact i
  rw[iG this];exact h⟩,λb u h n=>by
  rw[iG λz=>n<|by rw[z];exact bz J];exact h,λ_ h=>.inl h⟩
 refine⟨ex,by rw[bH];exact R.len,R.nd,λm b o h1 h2=>?_⟩;by_cases hm:m=n
 ·subst hm;rw[J]at h1;cases h1;rw[bG (aL.mp L).1]at h2
  cases h2
  exact⟨ws,i7,r.ext ex⟩
 ·rw[bF<|cj hm]at h2;have nb:b≠a:=λz=>by
   subst z;obtain⟨k,e1⟩:=aL.mp J;obtain⟨t,e2⟩:=aL.mp h1;exact hm<|(eW R.nd).mp<|e2.trans e1.symm
  have:=R.at m b o h1 h2
  cases o with
  | lst ys=>obtain⟨d,f,q⟩:=this;exact⟨d,by rw[iG nb];exact f,q.ext ex⟩
  | dct _|m_ _|dks _|dcp _=>obtain⟨d,f,q⟩:=this;exact⟨d,by rw[iG nb];exact f,q.ext ex⟩
  | dcf _|dkf _=>obtain⟨g,d,f,q⟩:=this;exact⟨g,d,by rw[iG nb];exact f,q.ext ex⟩
  | ins _ _=>obtain⟨g,j,f⟩:=this;exact⟨g,j,by rw[iG nb];exact f⟩
end
section
variable {X:Cx}{pos:Pos}{a b:aF}
def KN{H:Hp}{p q:aq}{n:Nat}{ns:ag}(R:Rel X.K ρ H S)(hp:ρ[n]?=some p)(hn:jJ S n=some kvs)(j:H q=some (.tup vs))(r:AVs X.K ρ H xs vs)(hi:A.ints xs=some ns) :
  ∃ks,H p=some (.dT ks)/\DV X.K ρ H kvs ks/\H q=some (.tup<|(ns.map (Sum.inl:Int->Key)).map kV)/\tZ H p (.ref q) (m7 ks<|ns.map Sum.inl):=by
 obtain⟨ks,e,d⟩:=R.dct hp<|jF hn;have z:=oR r hi;subst z;rw[<- r6]at j;exact⟨ks,e,d,j,tZ.t e j⟩
abbrev Jb (o i v:A)(S:iH):R Unit:=match o,i with
 | .ref n,.tup xs=>opt (jJ S n) λkvs=>opt (A.ints xs) λd=>gd (kvs.length<sizeLine) (.ok Unit.unit<|S.set n<|.dct<|putD kvs d v)
 | _,_=>.no
abbrev R_ (X:Cx):FW:=λo i v H Q=>∃ρ S d f g,Rel X.K ρ H S/\AV X.K ρ H d o/\AV X.K ρ H f i/\AV X.K ρ H g v/\(Jb d f g S).post (λ_ j=>∀ρ' H',Ext ρ ρ' H H'->Rel X.K ρ' H' j->Q H') (XE X ρ H)
def J9(U:X.A.units+64<cLine):Ja X (R_ X):=λpins s σ H o i v k z u Q I C J K h9=>by
 obtain⟨ρ,S,M,L,N,R,h1,h2,F,h⟩:=h9
 cases h1 with
 | @ref p n hp=>
  cases h2 with
  | @tup q xs O G r=>
   obtain⟨kvs,hn,h⟩:=iK h;obtain⟨j,hi,h⟩:=iK h;obtain⟨B,h⟩:=i9 h;obtain⟨ks,e,d,f,g⟩:=KN R hp hn G r hi;obtain⟨ex,m⟩:=R.putD hp (jF hn)<|d.put F j;exact set_dict () pins s σ H _ _ v k z u Q I C J K ⟨p,_,rfl,uQ.t e f<|by rw[<- d.length];exact B,h _ _ ex m⟩
  | _=>exact h.elim
 | _=>exact h.elim
abbrev Aj (co j:Ex):Tg:=λa τ S=>(co τ S).bind λo S1=>(j τ S1).bind λi S2=>(Jb o i a S2).bind λ_ S3=>.ok τ S3
def B0(L:X.A.units+64<cLine){co J:Ex}(M:AE X o co)(hi:AE X i J)
  (U:(∀v,assign (.Subscript o i pos) X.env v=(do
   let ov <- holding [v] (eval o X.env)
   let iv <- holding [v,ov] (eval i X.env)
   standAt pos
   holding [v,ov,iv] (setItem ov iv v)
   release [v,ov,iv] []))<|>ζ):AG X (.Subscript o i pos) (Aj co J):=PG.imp (Hu M hi (J9 L) U) λv σ H Q h9=>by
 obtain⟨ρ,S,τ,a,R,r,va,h⟩:=h9;refine⟨ρ,S,τ,R,r,iE (iI h) .refl λo S1 h1 ρ1 H1 x e1 j t=>⟨ρ1,S1,τ,j,r.ext e1,iE (iI h1) e1 λi S2 h2 d H2 y e2 R2 g=>?_⟩⟩;refine⟨d,S2,o,i,a,R2,t.ext e2,g,va.ext<|e1.trans e2,iE (iI h2) (e1.trans e2) λ_ S3 z ρ3 k f m=>?_⟩;exact z ρ3 k σ ((e1.trans e2).trans f) m<|r.ext<|(e1.trans e2).trans f
abbrev Cz (ck cv:Ex):Ex:=λτ S=>(ck τ S).bind λk S1=>(cv τ S1).bind λv S2=>match k with
 | .tup xs=>opt (A.ints xs) λd=>.ok (.ref S2.length) (S2++[.dct [(d,v)]])
 | _=>.no
def Rel.QJ{K:aA}{H:Hp}{S:iH}{D:aq}(R:Rel K ρ H S)(J:H D=some (.dT us))(hn:D∉ρ)(r:DV K ρ H xs vs):Ext0 ρ (ρ++[D]) H (upd H D<|.dT vs)/\Rel K (ρ++[D]) (upd H D<|.dT vs) (S++[.dct xs])/\(ρ++[D])[S.length]?=some D:=by
 have ex:Ext0 ρ (ρ++[D]) H (upd H D<|.dT vs):=⟨dz _ _,λb u i h=>by
  have:b≠D:=by
   intro z;subst z;rw[J]at h;cases h;exact i
  rw[iG this];exact h⟩
 have d:(ρ++[D])[S.length]?=some D:=by rw[<- R.len];simp
 refine⟨ex,⟨by simp[R.len],?_,λn a o h1 h2=>?_⟩,d⟩
 ·rw[cK];refine⟨R.nd,by simp,λa j b hb e=>?_⟩;have:b=D:=by simpa using hb
  exact hn<|by rw[<- this,<- e];exact j
 ·by_cases hs:n<S.length
  ·rw[aR<|by rw[R.len];exact hs]at h1;rw[aR hs]at h2;have na:a≠D:=λz=>hn (by rw[<- z];exact bz h1);have:=R.at n a o h1 h2
   cases o with
   | lst ys=>obtain⟨f,e,q⟩:=this;exact⟨f,by rw[iG na];exact e,AVs.jA ex q⟩
   | dct _|m_ _|dks _|dcp _=>obtain⟨f,e,q⟩:=this;exact⟨f,by rw[iG na];exact e,q.jA ex⟩
   | dcf _|dkf _=>obtain⟨g,f,e,q⟩:=this;exact⟨g,f,by rw[iG na];exact e,q.jA ex⟩
   | ins _ _=>obtain⟨g,k,e⟩:=this;exact⟨g,k,by rw[iG na];exact e⟩
  ·have e:n=S.length:=by
    have:=(aL.mp h2).1;simp at this
    lia
   subst e;rw[d]at h1
   cases h1
   simp at h2;subst h2;exact⟨vs,i7,r.jA ex⟩
def K7(Z:X.A.units+64<cLine){k v:aF}{ck cv:Ex}(U:AE X k ck)(hv:AE X v cv):AE X (.Dict [some k] [v] pos) (Cz ck cv):=PE.imp (Fe () U hv) λσ H Q ⟨ρ,S,τ,R,r,h⟩ p hp=>by
 obtain⟨e0,C⟩:=R.im (u:=.dT []) hp;have t:p∉ρ:=R.yw hp;refine⟨ρ,S,τ,C,r.ext e0,iE (iI h) e0 λa S1 h1 ρ1 H1 x e1 G L=>⟨ρ1,S1,τ,G,(r.ext e0).ext e1,iE (iI h1) (e0.trans e1) λb S2 h2 j H2 y e2 R2 F=>?_⟩⟩;have d:=e1.trans e2;have f:H2 p=some (.dT []):=d.fr p _ i7 t;have m:p∉j:=λhm=>(d.nw p hm).elim t λz=>by rw[i7]at z;cases z
 cases L.ext e2 with
 | @tup q xs vs O J=>
  obtain⟨g,hi,h2⟩:=iK h2;have z:=oR J hi;subst z;refine⟨f,q,g.map Sum.inl,rfl,by rw[r6];exact O,?_⟩;obtain⟨B,K,N⟩:=R2.QJ (xs:=[(g,b)]) (vs:=[(g.map Sum.inl,y)]) f m ⟨⟨rfl,F⟩,trivial⟩;refine h2 _ _ _ ⟨⟨(e0.trans d).pre.trans B.pre,λc u i hc=>B.im c u i<|(e0.trans d).im c u i hc⟩,λc u hc M=>?_,λc hc=>?_⟩ K (.ref N)
  ·rw[iG<|iQ hc hp];exact(e0.trans d).fr c u hc M
  ·rcases bA.mp hc with z|z
   ·exact(e0.trans d).nw c z
   ·have:c=p:=by simpa using z
    rw[this];exact .inr hp
 | _=>exact h2.elim
abbrev dct? (a:A)(S:iH):Option Unit:=match a with
 | .ref n=>(jJ S n).map λ_=>Unit.unit
 | _=>none
abbrev Dw (f:A->ae->iH->R A)(co:Ex)(d:n8):Ex:=λτ S=>(co τ S).bind λx S1=>opt (dct? x S1) λ_=>(d τ S1).bind λg S2=>f x g S2
def dct?_ty{K:aA}{H:Hp}{x:A}{v:V}(R:Rel K ρ H S)(a:AV K ρ H x v)(e:dct? x S=some u):QB K "dict" v H:=by
 cases a with
 | @ref p n h=>
  obtain⟨xs,hx,_⟩:=bu.mp e;obtain⟨d,h1,_⟩:=R.dct h<|jF hx;exact .inr<|.inr<|.inl ⟨rfl,.inr ⟨d,h1⟩⟩
 | _=>cases e
def IB{id:String}{apos cpos:Pos}{f:A->ae->iH->R A}{co:Ex}{d:n8}(slot:Slot "dict" name id)(Z:typeOf (.builtin id)=pure (.type "method_descriptor"))(hm:Mc X id<|rM X f)(ho:AE X o co)(ha:AL X (e::es) d)
  (L:attributeBase o name X.env (eval o X.env)=eval o X.env<|>ε)
  (U:(((backTo cpos<|starEach (e::es) X.env).all (λx=>!x.1) && (backToKw cpos<|keywordEach [] X.env).all (λx=>x.1.isSome)
   && decide ((e::es).length+([]:List Keyword).length+(if ([]:List Keyword).isEmpty then 0 else 1)<30))=true)<|>ε)
  (M:(apos.endLine == cpos.line)=true<|>ε) (hs:starEach (e::es) X.env=(false,eval e X.env)::starEach es X.env<|>ε) (J:((backTo cpos<|starEach es X.env).any (·.1)=false)<|>ε) :
  AE X (.Call (.Attribute o name apos) (e::es) [] cpos) (Dw f co d):=PE.imp (LQ PySem.F.plainAttrs_dict slot Z hm ho ha L U M hs J) λσ H Q h9=>by
 z_go;refine⟨ρ,S,τ,R,r,iE (iI h) .refl λx S1 h1 ρ1 H1 v e1 j k=>?_⟩;obtain⟨xs,hx,h1⟩:=iK h1;refine⟨dct?_ty j k hx,ρ1,S1,τ,j,r.ext e1,iE (iI h1) e1 λt S2 h2 g H2 B e2 R2 m=>?_⟩;exact⟨g,S2,x,t,R2,k.ext e2,m,iE h2 (e1.trans e2) λ_ _ z=>z.ext<|e1.trans e2⟩
abbrev Ag (o:A)(j:ae)(S:iH):R A:=match o,j with
 | .ref n,[.tup xs,y]=>opt (jJ S n) λkvs=>opt (A.ints xs) λk=>.ok ((j3 kvs k).getD y) S
 | _,_=>.no
def LG(U:X.A.units+64<cLine):Mc X "dict.get" (rM X Ag):=λpins s σ H x O v us Q I rx K h9=>by
 obtain⟨ρ,S,o,F,R,j,va,h⟩:=h9
 cases j with
 | @ref p n hp=>
  match F,va,h with
  | [],_,h=>exact h.elim
  | [z],_,h=>exact(by cases z<;>exact h.elim)
  | z::_::_::_,_,h=>exact(by cases z<;>exact h.elim)
  | [z,y],va,h=>
   obtain⟨L,t,rfl,C,hy⟩:=P1 va
   cases C with
   | @tup q xs M J m=>
    obtain⟨kvs,hn,h⟩:=iK h;obtain⟨d,hi,h⟩:=iK h;have z:=oR m hi;subst z;obtain⟨ks,h1,G⟩:=R.dct hp<|jF hn;refine J4 (by omega) pins s σ H _ _ v us Q I rx K ⟨p,q,d.map Sum.inl,ks,t,rfl,rfl,h1,by rw[r6];exact J,h _ _ _ .refl R ?_⟩;obtain⟨f,B⟩:=G.look d
    cases e1:j3 kvs d with
    | none=>
     rw[e1]at f
     cases e2:m7 ks (d.map Sum.inl)with
     | none=>exact hy
     | some _=>rw[e2]at f;cases f
    | some g=>
     obtain⟨N,e2,k⟩:=B g e1;rw[e2];exact k
   | _=>exact h.elim
 | _=>exact h.elim
end
section
variable {X:Cx}{pos:Pos}{a b:aF}
abbrev v9 (n m k:Nat):Src:=⟨k,λi S=>(iC S n).bind λxs=>(iC S m).bind λys=>(xs[i]?).bind λx=>(ys[i]?).map λy=>.tup [x,y],λS=>match iC S n,iC S m with
 | some xs,some ys=>decide (xs.length<=k) || decide (ys.length<=k)
 | _,_=>false⟩
abbrev Ru (a b:A)(S:iH):R Src:=match a,b with
 | .ref n,.ref m=>opt (iC S n) λxs=>opt (iC S m) λys=>.ok (v9 n m<|min xs.length ys.length) S
 | _,_=>.no
abbrev wC (c d:Ex):Ic:=λτ S=>(c τ S).bind λa S1=>(d τ S1).bind λb S2=>Ru a b S2
def Ow{K:aA}{U:bd}{H0:Hp}{p q:aq}{n m k:Nat}(hp:U[n]?=some p)(Z:U[m]?=some q):JR K (v9 n m k) (Sk K p q) U H0 where
 go:=λi S H ρ x e R g=>by
  obtain⟨xs,hn,g⟩:=bR.mp g;obtain⟨ys,hm,g⟩:=bR.mp g;obtain⟨L,hx,g⟩:=bR.mp g;obtain⟨M,hy,rfl⟩:=bu.mp g;obtain⟨f,h1,r1⟩:=R.lst (e.get hp)<|iP hn;obtain⟨d,h2,r2⟩:=R.lst (e.get Z)<|iP hm;obtain⟨v,ev,B⟩:=r1.get hx;obtain⟨w,t,G⟩:=r2.get hy;refine⟨⟨f,d,v,w,j5.of h1,j5.of h2,ev,t⟩,λu H' z=>?_⟩;obtain⟨T,J,rfl,F⟩:=z;have j:=F f d v w (j5.of h1) (j5.of h2) ev t;subst j;obtain⟨ex,C⟩:=R.im (u:=.tup [v,w]) J;exact⟨ex,C,.tup i7<|.cons (B.ext ex)<|.cons (G.ext ex) .nil⟩
 stop:=λS H ρ e R hf=>by
  have hf:(match iC S n,iC S m with
   | some xs,some ys=>decide (xs.length<=k) || decide (ys.length<=k)
   | _,_=>false)=true:=hf
  cases hn:iC S n with
  | none=>rw[hn]at hf;cases hf
  | some xs=>
   cases hm:iC S m with
   | none=>rw[hn,hm]at hf;cases hf
   | some ys=>
    rw[hn,hm]at hf;obtain⟨f,h1,r1⟩:=R.lst (e.get hp)<|iP hn;obtain⟨d,h2,r2⟩:=R.lst (e.get Z)<|iP hm;refine⟨f,d,j5.of h1,j5.of h2,?_⟩;rw[dD,dD,<- r1.length,<- r2.length];have hf:(decide (xs.length<=k) || decide (ys.length<=k))=true:=hf;rw[c8,fR,fR]at hf;exact hf
def Oe{p:Pos}{c d:Ex}(hm:X.mg "zip" = none)(M:AE X a c)(hb:AE X b d)(hg:Gl X "zip"<|>ε)(hs:starEach [a,b] X.env=(false,eval a X.env)::starEach [b] X.env<|>ε)(J:starEach [b] X.env=[(false,eval b X.env)]<|>ε)(L:((backTo pos<|starEach [b] X.env).any (·.1)=false)<|>ε) :
  AI X (.Tuple elts x1 tpos) (.Call (.Name "zip" p) [a,b] [] pos) (wC c d):=λpins s σ H Q I h9=>by
 z_go;refine Od hg hm (ly M (ly hb sf J) hs) hs L pins s σ H Q I ⟨ρ,S,τ,R,r,iE (iI h) .refl λx S1 h1 ρ1 H1 v e1 z C=>⟨ρ1,S1,τ,z,r.ext e1,iE (iI h1) e1 λy S2 h2 g H2 w e2 R2 t=>?_⟩⟩;have f:=C.ext e2
 cases f with
 | @ref p n hp=>
  cases t with
  | @ref q m k=>
   obtain⟨xs,hn,h2⟩:=iK h2;obtain⟨ys,j,h2⟩:=iK h2;obtain⟨F,g1,r1⟩:=R2.lst hp<|iP hn;obtain⟨B,g2,r2⟩:=R2.lst k<|iP j;exact⟨_,_,F,B,rfl,j5.of g1,j5.of g2,h2 g H2 _ (e1.trans e2) R2<|Ow hp k⟩
  | _=>exact h2.elim
 | _=>exact h2.elim
def Iu{c d:Ex}{n:Nat}{xs ys:ae}(h1:c τ S=.ok (.ref n) S1)(h2:d τ S1=.ok (.ref m) S2)(hn:iC S2 n=some xs)(hm:iC S2 m=some ys):wC c d τ S=.ok (v9 n m<|min xs.length ys.length) S2:=by
 unfold wC;rw[h1];show(d τ S1).bind _=_;rw[h2];show opt (iC S2 n) _=_;rw[hn]
 skip
 rw[hm];rfl
end
section
variable {X:Cx}{pos:Pos}{a b:aF}
abbrev pW (n k:Nat):Src:=⟨k,λi S=>(iC S n).bind λxs=>(xs[i]?).map λx=>.tup [.int i,x],λS=>match iC S n with
 | some ys=>decide (ys.length=k)
 | none=>false⟩
abbrev T9 (a:A)(S:iH):R Src:=match a with
 | .ref n=>opt (iC S n) λxs=>.ok (pW n xs.length) S
 | _=>.no
abbrev Eu (c:Ex):Ic:=λτ S=>(c τ S).bind λa S1=>T9 a S1
def MB{K:aA}{J:bd}{L:Hp}{p:aq}{n k:Nat}(hp:J[n]?=some p):JR K (pW n k) (NN K p) J L where
 go:=λi S H ρ x e R g=>by
  obtain⟨xs,hn,g⟩:=bR.mp g;obtain⟨y,hy,rfl⟩:=bu.mp g;obtain⟨d,h1,r1⟩:=R.lst (e.get hp)<|iP hn;obtain⟨v,ev,m⟩:=r1.get hy;refine⟨⟨d,v,j5.of h1,ev⟩,λw H' q=>?_⟩;obtain⟨B,f,rfl,z⟩:=q;have j:=z d v (j5.of h1) ev;subst j;obtain⟨ex,t⟩:=R.im (u:=.tup [.int i,v]) f;exact⟨ex,t,.tup i7<|.cons (.int _)<|.cons (m.ext ex) .nil⟩
 stop:=λS H ρ e R hf=>by
  have hf:(match iC S n with
   | some ys=>decide (ys.length=k)
   | none=>false)=true:=hf
  cases hn:iC S n with
  | none=>rw[hn]at hf;cases hf
  | some xs=>
   rw[hn]at hf;obtain⟨d,h1,r1⟩:=R.lst (e.get hp)<|iP hn;exact⟨d,j5.of h1,by rw[<- r1.length];exact dO hf⟩
def HU{p:Pos}{c:Ex}(hm:X.mg "enumerate" = none)(j:AE X a c)(hg:Gl X "enumerate"<|>ε)(hs:starEach [a] X.env=[(false,eval a X.env)]<|>ε):AI X (.Tuple elts x1 tpos) (.Call (.Name "enumerate" p) [a] [] pos) (Eu c):=λpins s σ H Q I h9=>by
 z_go;refine E6 hg hm (ly j sf hs) hs pins s σ H Q I ⟨ρ,S,τ,R,r,iE (iI h) .refl λx S1 h1 ρ1 H1 v e1 d f=>?_⟩
 cases f with
 | @ref p n hp=>
  obtain⟨xs,hn,h1⟩:=iK h1;obtain⟨g,g1,r1⟩:=d.lst hp<|iP hn;exact⟨_,g,rfl,j5.of g1,h1 ρ1 H1 _ e1 d<|MB hp⟩
 | _=>exact h1.elim
def B6{c:Ex}{n:Nat}{xs:ae}(h:c τ S=.ok (.ref n) S1)(hn:iC S1 n=some xs):Eu c τ S=.ok (pW n xs.length) S1:=by
 unfold Eu;rw[h];show opt (iC S1 n) _=_;rw[hn];rfl
theorem Mu{K:aA}{H:Hp}:∀{kvs:List<|ag×A}{ks:List<|List Key×V}{i:Nat}{p:ag×A},DV K ρ H kvs ks->kvs[i]?=some p->∃q,ks[i]?=some q/\q.1=p.1.map Sum.inl/\AV K ρ H p.2 q.2
 | [],[],_,_,_,h=>by simp at h
 | a::kvs,b::ks,0,p,⟨z,_⟩,h=>by
  have:a=p:=by simpa using h
  subst this;exact⟨b,rfl,z⟩
 | a::kvs,b::ks,i+1,p,⟨_,t⟩,h=>Mu (kvs:=kvs) (ks:=ks) (i:=i) t<|by simpa using h
def Rel.gone{K:aA}{H:Hp}{S:iH}{n:Nat}{a:aq}(R:Rel K ρ H S)(J:ρ[n]?=some a)(L:S[n]?=some (.dct xs)):Ext ρ ρ H (upd H a<|.frz o u)/\Rel K ρ (upd H a<|.frz o u) (S.set n<|.ins "" []):=by
 obtain⟨C,e,_⟩:=R.at n a _ J L;have ex:Ext ρ ρ H (upd H a<|.frz o u):=⟨⟨cN _,λb k i h=>by
  have:b≠a:=by
   intro z;subst z;rw[e]at h;cases h;exact i
  rw[iG this];exact h⟩,λb k h nb=>by
  rw[iG λz=>nb<|by rw[z];exact bz J];exact h,λ_ h=>.inl h⟩
 refine⟨ex,by rw[bH];exact R.len,R.nd,λm b ob h1 h2=>?_⟩;by_cases hm:m=n
 ·subst hm;rw[J]at h1;cases h1;rw[bG (aL.mp L).1]at h2
  cases h2
  exact⟨o,u,i7⟩
 ·rw[bF<|cj hm]at h2;have nb:b≠a:=λz=>by
   subst z;obtain⟨t,e1⟩:=aL.mp J;obtain⟨B,e2⟩:=aL.mp h1;exact hm<|(eW R.nd).mp<|e2.trans e1.symm
  have:=R.at m b ob h1 h2
  cases ob with
  | lst ys=>obtain⟨d,f,q⟩:=this;exact⟨d,by rw[iG nb];exact f,q.ext ex⟩
  | dct _|m_ _|dks _|dcp _=>obtain⟨d,f,q⟩:=this;exact⟨d,by rw[iG nb];exact f,q.ext ex⟩
  | dcf _|dkf _=>obtain⟨g,d,f,q⟩:=this;exact⟨g,d,by rw[iG nb];exact f,q.ext ex⟩
  | ins _ _=>obtain⟨g,j,f⟩:=this;exact⟨g,j,by rw[iG nb];exact f⟩
end
abbrev lT (s:Src)(g:Tg)(t:Te)(e:Ex):Nat->Nat->ae->iH->R (ae×ae)
 | 0,_=>λτ S=>if s.fin S then .ok ([],τ) S else .no
 | k+1,i=>λτ S=>opt (s.get i S) λx=>(g x τ S).jh λτ1 S1=>(t τ1 S1).jh λb S2=>match b with
  | true=>(e τ1 S2).jh λy S3=>(lT s g t e k (i+1) τ1 S3).jh λp S4=>.ok (y::p.1,p.2) S4
  | false=>lT s g t e k (i+1) τ1 S2
abbrev kE (s:Src)(g:Tg)(t:Te)(src2:Ic)(g2:Tg)(t2:Te)(e:Ex):Nat->Nat->ae->iH->R (ae)
 | 0,_=>λ_ S=>if s.fin S then .ok [] S else .no
 | k+1,i=>λτ S=>opt (s.get i S) λx=>(g x τ S).jh λτ1 S1=>(t τ1 S1).jh λb S2=>match b with
  | true=>(src2 τ1 S2).jh λd S3=>(lT d g2 t2 e d.k 0 τ1 S3).jh λp S4=>(kE s g t src2 g2 t2 e k (i+1) p.2 S4).jh λys S5=>.ok (p.1++ys) S5
  | false=>kE s g t src2 g2 t2 e k (i+1) τ1 S2
abbrev xg (cap:List<|bo)(src:Ic)(g:Tg)(t:Te)(src2:Ic)(g2:Tg)(t2:Te)(e:Ex):Ex:=λτ S=>(src τ S).bind λs S1=>(kE s g t src2 g2 t2 e s.k 0 (lH cap τ) S1).jh λys S2=>newL ys S2
def yY{s:Src}{g:Tg}{t:Te}{e:Ex}{k:Nat}{T:Prop}(h:lT s g t e (k+1) i τ S=.ok (zs,τ') S')
  (q:∀x τ1 S1 b S2,s.get i S=some x->g x τ S=.ok τ1 S1->t τ1 S1=.ok b S2->(b=true->∃y S3 ws,e τ1 S2=.ok y S3/\lT s g t e k (i+1) τ1 S3=.ok (ws,τ') S'/\zs=y::ws)->(b=false->lT s g t e k (i+1) τ1 S2=.ok (zs,τ') S')->T):T:=by
 obtain⟨x,hx,h⟩:=sy h;obtain⟨τ1,S1,h1,h⟩:=ja h;obtain⟨b,S2,h2,h⟩:=ja h;mg_lt
 ·subst hb;obtain⟨y,S3,d,h⟩:=ja h;obtain⟨⟨ws,f⟩,S4,j,h⟩:=ja h
  cases h
  exact⟨y,S3,ws,d,j,rfl⟩
 ·subst hb;exact h
def xj{s:Src}{g:Tg}{t:Te}{src2:Ic}{g2:Tg}{t2:Te}{e:Ex}{k:Nat}{T:Prop}(h:kE s g t src2 g2 t2 e (k+1) i τ S=.ok zs S')
  (q:∀x τ1 S1 b S2,s.get i S=some x->g x τ S=.ok τ1 S1->t τ1 S1=.ok b S2->(b=true->∃s2 S3 ps τ2 S4 ws,src2 τ1 S2=.ok s2 S3/\lT s2 g2 t2 e s2.k 0 τ1 S3=.ok (ps,τ2) S4/\kE s g t src2 g2 t2 e k (i+1) τ2 S4=.ok ws S'/\zs=ps++ws)->(b=false->kE s g t src2 g2 t2 e k (i+1) τ1 S2=.ok zs S')->T):T:=by
 obtain⟨x,hx,h⟩:=sy h;obtain⟨τ1,S1,h1,h⟩:=ja h;obtain⟨b,S2,h2,h⟩:=ja h;mg_lt
 ·subst hb;obtain⟨s2,S3,j,h⟩:=ja h;obtain⟨⟨ps,τ2⟩,S4,f,h⟩:=ja h;obtain⟨ws,S5,d,h⟩:=ja h
  cases h
  exact⟨s2,S3,ps,τ2,S4,ws,j,f,d,rfl⟩
 ·subst hb;exact h
abbrev Q7 (K:aA)(c:Ic):TI:=λσ H Q=>∃ρ S τ s d,Rel K ρ H S/\SR K ρ H τ σ/\c τ S=.ok s d/\∀ρ' H' J,Ext ρ ρ' H H'->Rel K ρ' H' d->JR K s J ρ' H'->Q J H'
section
variable {X:Cx}{pos:Pos}{tg iter tg2 iter2 elt e:aF}{ifs ifs2:List aF}{scope:Scope}{N:ar}{cap:List (bo)}{src src2:Ic}{g g2:Tg}{t t2:Te}{c:Ex}
def AI.i0{K:aA}(hK:X.K=K)(h:AI X tg e src):PI X tg e (Q7 K src):=λpins s σ H Q I ⟨ρ,S,τ,a,g,R,r,hc,q⟩=>h pins s σ H Q I ⟨ρ,S,τ,by rw[hK];exact R,by rw[hK];exact r,by rw[hc];exact λρ' H' J e f d=>q ρ' H' J e (by rw[<- hK];exact f)<|by rw[<- hK];exact d⟩
def G2(hc:X.calm=true)(Sc:CpScope X scope N cap)(hi:AI X tg iter src)(hg:∀C s₀ H₀ ex,AG (iZ X scope N C s₀ H₀ ex) tg g)(ht:∀C s₀ H₀ ex,Mf (iZ X scope N C s₀ H₀ ex) ifs t)(hi2:∀C s₀ H₀ ex,AI (iZ X scope N C s₀ H₀ ex) tg2 iter2 src2)
  (hg2:∀C s₀ H₀ ex,AG (iZ X scope N C s₀ H₀ ex) tg2 g2) (ht2:∀C s₀ H₀ ex,Mf (iZ X scope N C s₀ H₀ ex) ifs2 t2) (he:∀C s₀ H₀ ex,AE (iZ X scope N C s₀ H₀ ex) elt c)
  (hs:(∀x,foldedSetIterable iter X.env x=pure x)<|>ζ) (hs2:∀env x,foldedSetIterable iter2 env x=pure x:=by intro _ _;rfl):AE X (.ListComp elt [⟨tg,iter,ifs,0⟩,⟨tg2,iter2,ifs2,0⟩] scope pos) (xg cap src g t src2 g2 t2 c):=by
 refine PE.imp (Nl hc Sc hi (g:=Jl X.K g) (tc:=HJ X.K t) (wi2:=Q7 X.K src2) (g2:=Jl X.K g2) (tc2:=HJ X.K t2) (te:=JK X.K c) (λC s₀ H₀ ex=>(hg C s₀ H₀ ex).g0 rfl) (λC s₀ H₀ ex=>ht C s₀ H₀ ex) (λC s₀ H₀ ex=>(hi2 C s₀ H₀ ex).i0 rfl) (λC s₀ H₀ ex=>(hg2 C s₀ H₀ ex).g0 rfl) (λC s₀ H₀ ex=>ht2 C s₀ H₀ ex) (λC s₀ H₀ ex=>(he C s₀ H₀ ex).e0 rfl) hs hs2) λσ H Q h9=>?_;z_go;refine⟨ρ,S,τ,R,r,iE (iI h) .refl λs S1 h1 ρ1 H1 J e1 R1 jr D hD=>?_⟩;obtain⟨ys,S2,hcg,h1⟩:=qR h1;obtain⟨hlen,h1⟩:=i9 h1;have h1:tY X ρ H Q (.ref S2.length) (S2++[.lst ys]):=h1;obtain⟨eD,RD⟩:=R1.im (u:=.lst []) hD;refine⟨Cq X.K ρ1 H1 D ys s.k (λ_ _=>True) λm i τ S zs=>kE s g t src2 g2 t2 c m i τ S=.ok zs S2,⟨s.k,.of rfl ⟨eD.toExt0,λa u na hu _=>by rw[iG na];exact hu,λa ha=>.inl ha,R1.yw hD,i7⟩ trivial RD (HQ ((r.ext e1).ext eD) cap) .nil hcg rfl⟩,?_⟩;intro i m σ3 H3 hw;refine hw.el λρ3 S3 τ3 acc zs accV hm o3 _ R3 r3 ac3 j F=>?_;clear hw
 cases m with
 | zero=>
  left;have j:(if s.fin S3 then Am.R.ok [] S3 else .no)=.ok zs S2:=j
  cases hf:s.fin S3 with
  | false=>rw[hf]at j;cases j
  | true=>
   rw[hf]at j
   cases j
   rw[bI]at F;subst F;refine⟨by rw[show i=s.k by lia];exact jr.stop _ H3 ρ3 o3.e0 R3 hf,?_⟩;obtain⟨RT,gt⟩:=R3.take o3.hD o3.nD ac3;exact h1 (ρ3++[D]) H3 _ (e1.trans<|o3.end hD) RT<|.ref gt
 | succ m=>
  right;refine xj j λx τ4 S4 b S5 hx hg4 ht5 hT hF=>?_;have jg:=jr.go i S3 H3 ρ3 x o3.e0 R3 hx;refine⟨jg.1,λv H4 y=>?_⟩;obtain⟨e4,R4,v4⟩:=jg.2 v H4 y;gp_on;have e36:=(e4.trans e5).trans e6
  cases b with
  | false=>
   dsimp only;rw[aU bg];exact⟨m,bE _,.of () (o3.stay hD e36) trivial R6 (r5.ext e6) (ac3.ext e36) (hF rfl) F⟩
  | true=>
   dsimp only;rw[aS rfl];obtain⟨s2,S6,ps,τ7,S7,ws,hs6,ci7,co7,ezs⟩:=hT rfl;refine⟨ρ6,S5,τ4,s2,S6,R6,r5.ext e6,hs6,λρ8 H8 J2 e8 R8 jr2=>?_⟩;have e38:=e36.trans e8;refine⟨Cq X.K ρ1 H1 D (acc++ps) s2.k (λρ' H'=>Ext0 ρ8 ρ' H8 H') λm i τ S qs=>lT s2 g2 t2 c m i τ S=.ok (qs,τ7) S7,⟨s2.k,.of rfl (o3.stay hD e38) ⟨cN _,λ_ _ _ h=>h⟩ R8 (r5.ext<|e6.trans e8) (ac3.ext e38) ci7 rfl⟩,?_⟩;intro i2 m2 σ9 H9 hw;refine hw.el λρ9 S9 τ9 acc9 qs M hm2 o9 U R9 r9 V f B=>?_;clear hw
   cases m2 with
   | zero=>
    left;have f:(if s2.fin S9 then Am.R.ok ([],τ9) S9 else .no)=.ok (qs,τ7) S7:=f
    cases hf:s2.fin S9 with
    | false=>rw[hf]at f;cases f
    | true=>
     rw[hf]at f
     cases f
     rw[bI]at B;subst B;exact⟨by rw[show i2=s2.k by lia];exact jr2.stop _ H9 ρ9 U R9 hf,m,bE _,.of () o9 trivial R9 r9 V co7<|by rw[br,<- ezs,F]⟩
   | succ m2=>
    right;refine yY f λx9 G S10 b10 S11 hx9 hg10 ht11 hT9 hF9=>?_;have jg2:=jr2.go i2 S9 H9 ρ9 x9 U R9 hx9;refine⟨jg2.1,λv10 H10 y10=>?_⟩;obtain⟨e10,R10,v10'⟩:=jg2.2 v10 H10 y10;refine⟨ρ9,S9,τ9,x9,G,S10,R10,r9.ext e10,v10',hg10,λρ11 H11 σ11 e11 R11 P=>⟨ρ11,S10,G,b10,S11,R11,P,ht11,λZ H12 W R12=>?_⟩⟩;have d:=(e10.trans e11).trans W;have o12:=o9.stay hD d;have L:Ext0 ρ8 Z H8 H12:=⟨U.pre.trans d.pre,λa u i h=>d.im a u i<|U.im a u i h⟩
    cases b10 with
    | false=>
     dsimp only;rw[aU bg];exact⟨m2,bE _,.of () o12 L R12 (P.ext W) (V.ext d) (hF9 rfl) B⟩
    | true=>
     dsimp only;rw[aS rfl];obtain⟨y,S13,us,he13,ci13,eus⟩:=hT9 rfl;refine⟨Z,S11,G,y,S13,R12,P.ext W,he13,λρ14 H14 w O R14 v14=>?_⟩;have Y:=o12.stay hD O;obtain⟨z,R15⟩:=R14.out (ws:=M++[w]) Y.hD Y.nD;have l1:=V.length;refine⟨M,Y.hD,?_,m2,bE _,.of () (Y.put z) ⟨L.pre.trans O.pre,λa u i h=>z.im a u i<|O.im a u i<|L.im a u i h⟩ R15 ((P.ext<|W.trans O).jA z) (AVs.jA z<|(V.ext<|d.trans O).append<|.one v14) ci13 ?_⟩
     ·have:((acc++ps)++ws).length<=sizeLine:=by rw[br,<- ezs,F];exact hlen
      rw[<- B,eus,aV,aV,bw]at this
      lia
     ·rw[br,<- B,eus];rfl
end
abbrev Sz (F:ae->iH->R A)(d:n8):Ex:=λτ S=>(d τ S).bind λf S1=>F f S1
abbrev Kl:List (Str ⊕ Ex)->ae->iH->R Unit
 | [],_,S=>.ok Unit.unit S
 | .inl _::ps,τ,S=>Kl ps τ S
 | .inr e::ps,τ,S=>(e τ S).bind λv S1=>match v with
  | .int i=>gd (i.natAbs.log2<64) (Kl ps τ S1)
  | _=>.no
abbrev M9 (c:Str)(ps:List<|Str ⊕ Ex):Sm:=λτ S=>.of (Kl ps τ S) λ_ S1=>.ex c S1
abbrev Ln (i:Nat):RS->RS
 | .nx τ S=>.nx (τ.set i .unb) S
 | .bk τ S=>.bk (τ.set i .unb) S
 | .ct τ S=>.ct (τ.set i .unb) S
 | .rt a S=>.rt a S
 | _=>.no
abbrev QM (i n:Nat)(cs:ar)(c d:Sm):Sm:=λτ S=>match c τ S with
 | .ex x S1=>if x∈cs then Ln i (d ((List.replicate n .unb).set i<|.exn x) S1)else .no
 | r=>r
abbrev SA (f:Str->bn)(c:Ex):Ex:=λτ S=>(c τ S).bind λv S1=>match v with
 | .exn x=>opt (f x) λb=>.ok (.bl b) S1
 | _=>.no
abbrev Ug (tb:List<|Str×Bool):Str->bn:=λx=>tb.lookup x
abbrev Qz (F:ae->iH->R A)(d:n8):Ex:=λτ S=>match d τ S with
 | .ok f S1=>F f S1
 | _=>.no
section
variable {d:n8}
abbrev PL (t:Te)(c d:Sm):Sm:=λτ S=>match t τ S with
 | .ok true S1=>c τ S1
 | .ok false S1=>d τ S1
 | _=>.no
end
abbrev Ll (i:Nat)(cs:ar)(c d:Sm):Sm:=λτ S=>match c τ S with
 | .ex x S1=>if x∈cs then Ln i (d (τ.set i<|.exn x) S1)else .no
 | r=>r
abbrev SQ:Sm:=λ_ _=>.no
def QL{st:aG}:AS X st SQ:=PS.imp EU λD σ H ⟨ρ,S,τ,R,r,h⟩=>h.elim
def Es{K:aA}{H:Hp}{a:aq}{ns:ag}{F:ae->iH->R A}(j:KU H)(J:j5 K H a<|ns.map V.int)(h:∃S',F [.frz<|ns.map .int] []=.ok (.bl true) S'):qU K 1 F [.ref a] H (λv _=>v=.bl true) λ_ _ _=>False:=by
 obtain⟨S',h⟩:=h;have fz:Fz K H a (ns.map V.int):=by
  rcases J with(h|⟨o,h⟩)|h
  ·rcases j a with z|⟨ob,xs,z⟩
   ·rw[h]at z;cases z
   ·rw[h]at z;cases z
  ·exact .inl ⟨o,h⟩
  ·exact .inr h
 exact⟨rfl,[],[],_,_,S',⟨rfl,List.nodup_nil,λn a o h=>by simp at h⟩,.cons (.frz fz<|pN ns) .nil,h,λρ' H' v _ _ hv=>yk hv⟩
def Jk{P:ba->Prop}(h:∀a0,P [a0]):∀us:ba,us.length=1->P us
 | [_],_=>h _
def AQ{P:ba->Prop}(h:∀a0 a1,P [a0,a1]):∀us:ba,us.length=2->P us
 | [_,_],_=>h _ _
end Am
namespace Am
open PySem L2
section
variable {α β:Type}{a b:A}{S S1:iH}{τ:ae}{x:α}
@[simp]def R.jR {f:α->iH->R β}:(R.ok x S).bind f=f x S:=rfl
@[simp]def R.Dk {f:α->iH->R β}{c:Str}:(R.ex c S:R α).bind f=.ex c S:=rfl
@[simp]def R.jc {f:α->iH->R β}:(R.ok x S).jh f=f x S:=rfl
@[simp]def RS.of_ok {f:α->iH->RS}:RS.of (R.ok x S) f=f x S:=rfl
@[simp]def RS.LW {f:α->iH->RS}{c:Str}:RS.of (R.ex c S:R α) f=.ex c S:=rfl
@[simp]def iU {f:β->R α}{y:β}:opt (some y) f=f y:=rfl
@[simp]def CU {r:R α}:gd True r=r:=aS trivial
theorem j7{c:Prop}[Decidable c]{r:R α}(h:c):gd c r=r:=aS h
@[simp]def mq {i:Nat}:iB i τ S=bif (τ.getD i .unb).kZ then .no else .ok (τ.getD i .unb) S:=by unfold iB;cases(τ.getD i .unb).kZ<;>rfl
@[simp]def Dh {xs:ae}:A.kZ (.tup xs)=false:=rfl
@[simp]def Bx {xs:ae}:A.kZ (.frz xs)=false:=rfl
@[simp]def Dm {i:Int}:A.kZ (.int i)=false:=rfl
@[simp]def E9 {i:Bool}:A.kZ (.bl i)=false:=rfl
@[simp]def BO {i:Str}:A.kZ (.str i)=false:=rfl
@[simp]def B4 {i:Nat}:A.kZ (.ref i)=false:=rfl
@[simp]def Cn:A.kZ .non=false:=rfl
@[simp]def Dg {i j:Int}:A.kZ (.rng i j)=false:=rfl
@[simp]def Cb {c:Str}:A.kZ (.exn c)=false:=rfl
@[simp]def L5:eC a τ S=.ok a S:=rfl
abbrev P9 (f:A->A->iH->R A)(cb:Ex)(τ:ae)(a:A)(S:iH):R A:=(cb τ S).bind<|f a
@[simp]def Bb {f:A->A->iH->R A}{cb:Ex}:P9 f cb τ a S=(cb τ S).bind (f a):=rfl
@[simp]def Bm {f:A->A->iH->R A}{ca cb:Ex}:iR f ca cb τ S=(ca τ S).bind (P9 f cb τ):=rfl
@[simp]def FF {f:A->iH->R A}{ca:Ex}:LP f ca τ S=(ca τ S).bind f:=rfl
@[simp]def Bv {c:Ex}:vF c τ S=(c τ S).bind λa S1=>opt (a.PB S1) λb=>.ok b S1:=rfl
abbrev aB (a:A)(S:iH):R Bool:=match a with
 | .bl b=>.ok b S
 | _=>.no
@[simp]def LU {b:Bool}:aB (.bl b) S=.ok b S:=rfl
@[simp]def IQ {c:Ex}:qe c τ S=(c τ S).bind aB:=rfl
@[simp]def C3 {c:Te}:zB c τ S=(c τ S).bind λb S1=>.ok (!b) S1:=rfl
abbrev ME (d:Te)(τ:ae)(b:Bool)(S:iH):R Bool:=match b with|true=>d τ S|false=>.ok false S
abbrev Ra (d:Te)(τ:ae)(b:Bool)(S:iH):R Bool:=match b with|true=>.ok true S|false=>d τ S
@[simp]def ET {d:Te}:ME d τ true S=d τ S:=rfl
@[simp]def IL {d:Te}:ME d τ false S=.ok false S:=rfl
@[simp]def Lw {d:Te}:Ra d τ true S=.ok true S:=rfl
@[simp]def Mk {d:Te}:Ra d τ false S=d τ S:=rfl
@[simp]def Dj {c d:Te}:vC c d τ S=(c τ S).bind (ME d τ):=rfl
@[simp]def GK {c d:Te}:L8 c d τ S=(c τ S).bind (Ra d τ):=rfl
@[simp]def Bd:jK τ S=.ok true S:=rfl
abbrev Jd (d:Ex)(τ:ae)(a:A)(S:iH):R A:=match a with | .bl true=>d τ S | .bl false=>.ok (.bl false) S|_=>.no
abbrev ON (d:Ex)(τ:ae)(a:A)(S:iH):R A:=match a with | .bl true=>.ok (.bl true) S | .bl false=>d τ S|_=>.no
@[simp]def BH {d:Ex}:Jd d τ (.bl true) S=d τ S:=rfl
@[simp]def CP {d:Ex}:Jd d τ (.bl false) S=.ok (.bl false) S:=rfl
@[simp]def G0 {d:Ex}:ON d τ (.bl true) S=.ok (.bl true) S:=rfl
@[simp]def Gb {d:Ex}:ON d τ (.bl false) S=d τ S:=rfl
@[simp]def Cy {c d:Ex}:vH c d τ S=(c τ S).bind (Jd d τ):=by
 unfold vH
 cases c τ S with
 | ok a S1=>cases a<;>first|rfl|(rename_i b;cases b<;>rfl)
 | _=>rfl
@[simp]def Hw {c d:Ex}:Ti c d τ S=(c τ S).bind (ON d τ):=by
 unfold Ti
 cases c τ S with
 | ok a S1=>cases a<;>first|rfl|(rename_i b;cases b<;>rfl)
 | _=>rfl
abbrev Ly (a:A)(S:iH):R A:=match a with | .bl b=>.ok (.bl !b) S|_=>.no
@[simp]def y_ {b:Bool}:Ly (.bl b) S=.ok (.bl !b) S:=rfl
@[simp]def Cw {c:Ex}:MH c τ S=(c τ S).bind Ly:=rfl
abbrev Og (c d:Ex)(τ:ae)(b:Bool)(S:iH):R A:=match b with|true=>c τ S|false=>d τ S
@[simp]def ID {c d:Ex}:Og c d τ true S=c τ S:=rfl
@[simp]def Ht {c d:Ex}:Og c d τ false S=d τ S:=rfl
@[simp]def EH {t:Te}{c d:Ex}:Ud t c d τ S=(t τ S).bind (Og c d τ):=rfl
@[simp]def C_:iO τ S=.ok [] S:=rfl
abbrev Aq (a:A)(j:ae)(S:iH):R (ae):=.ok (a::j) S
abbrev Mi (d:n8)(τ:ae)(a:A)(S:iH):R (ae):=(d τ S).bind<|Aq a
@[simp]def vU {j:ae}:Aq a j S=.ok (a::j) S:=rfl
@[simp]def zD {d:n8}:Mi d τ a S=(d τ S).bind (Aq a):=rfl
@[simp]def ye {c:Ex}{d:n8}:iD c d τ S=(c τ S).bind (Mi d τ):=rfl
@[simp]def Bt {d:n8}:qh d τ S=(d τ S).bind λas S1=>gd (as.length<=sizeLine) (.ok (.tup as) S1):=rfl
@[simp]def B_ {d:n8}:rH d τ S=(d τ S).bind newL:=rfl
theorem jv{j:ae}(h:j.length<=16777216):newL j S=.ok (.ref S.length) (S++[.lst j]):=j7<|by rw[cY];exact h
@[simp]def yi {f:ae->iH->R A}{d:n8}:iY f d τ S=(d τ S).bind f:=rfl
abbrev Rk (r:R A):R A:=match r with
 | .ok a S=>.ok a S
 | _=>.no
@[simp]def Fw:Rk (.ok a S)=.ok a S:=rfl
abbrev Tv (f:ae->iH->R A)(j:ae)(S:iH):R A:=Rk<|f j S
@[simp]def EB {f:ae->iH->R A}{j:ae}:Tv f j S=Rk (f j S):=rfl
@[simp]def HB {f:ae->iH->R A}{d:n8}:eFn f d τ S=(d τ S).bind (Tv f):=rfl
@[simp]def L4 {g:A->iH->R A}:f1 g [a] S=g a S:=rfl
@[simp]def LB {g:A->A->iH->R A}:f2 g [a,b] S=g a b S:=rfl
abbrev M3 (h:Pt)(τ:ae)(a:A)(l:bj)(S:iH):R A:=(h τ S).bind<|OP a l
abbrev SO (l h:Pt)(τ:ae)(a:A)(S:iH):R A:=(l τ S).bind<|M3 h τ a
@[simp]def C2 {h:Pt}{l:bj}:M3 h τ a l S=(h τ S).bind (OP a l):=rfl
@[simp]def EF {l h:Pt}:SO l h τ a S=(l τ S).bind (M3 h τ a):=rfl
@[simp]def FL {c:Ex}{l h:Pt}:O8 c l h τ S=(c τ S).bind (SO l h τ):=rfl
@[simp]def yh:zF τ S=.ok none S:=rfl
abbrev Tj (a:A)(S:iH):R (bj):=match a with
 | .int i=>.ok (some i) S
 | _=>.no
@[simp]def Cu {i:Int}:Tj (.int i) S=.ok (some i) S:=rfl
@[simp]def zu {c:Ex}:yD c τ S=(c τ S).bind Tj:=rfl
abbrev Oa (f:A->ae->iH->R A)(d:n8)(τ:ae)(o:A)(S:iH)(_:ae):R A:=(d τ S).bind<|f o
abbrev TU (f:A->ae->iH->R A)(d:n8)(τ:ae)(o:A)(S:iH):R A:=opt (o.lst? S)<|Oa f d τ o S
@[simp]def CJ {f:A->ae->iH->R A}{d:n8}{xs:ae}:Oa f d τ a S xs=(d τ S).bind (f a):=rfl
@[simp]def GF {f:A->ae->iH->R A}{d:n8}:TU f d τ a S=opt (a.lst? S) (Oa f d τ a S):=rfl
@[simp]def Hy {f:A->ae->iH->R A}{c:Ex}{d:n8}:Jp f c d τ S=(c τ S).bind (TU f d τ):=rfl
@[simp]def CS {f:A->ae->iH->R A}{c:Ex}:Nv f c τ S=(c τ S).bind λo S1=>opt (o.lst? S1) λ_=>f o [] S1:=rfl
@[simp]def lst?_ref {n:Nat}:A.lst? S (.ref n)=iC S n:=rfl
abbrev RS.seq (r:RS)(d:Sm):RS:=match r with
 | .nx τ S=>d τ S
 | r=>r
@[simp]def RS.Fi {d:Sm}:RS.seq (.nx τ S) d=d τ S:=rfl
@[simp]def RS.EK {d:Sm}:RS.seq (.rt a S) d=.rt a S:=rfl
@[simp]def RS.Jj {d:Sm}{c:Str}:RS.seq (.ex c S) d=.ex c S:=rfl
@[simp]def RS.Hg {d:Sm}:RS.seq (.bk τ S) d=.bk τ S:=rfl
@[simp]def RS.HW {d:Sm}:RS.seq (.ct τ S) d=.ct τ S:=rfl
@[simp]def A3 {c d:Sm}:i_ c d τ S=RS.seq (c τ S) d:=by unfold i_ RS.seq;cases c τ S<;>rfl
@[simp]def Bc:nY τ S=.nx τ S:=rfl
@[simp]def vY:Nq τ S=.bk τ S:=rfl
@[simp]def zk:O4 τ S=.ct τ S:=rfl
@[simp]def zI {e:Ex}:qo e τ S=RS.of (e τ S) λ_ S1=>.nx τ S1:=rfl
@[simp]def AY {e:Ex}:j4 e τ S=RS.of (e τ S) .rt:=rfl
@[simp]def zK:P0 τ S=.rt .non S:=rfl
abbrev Q2 (c d:Sm)(τ:ae)(b:Bool)(S:iH):RS:=match b with|true=>c τ S|false=>d τ S
@[simp]def LO {c d:Sm}:Q2 c d τ true S=c τ S:=rfl
@[simp]def LL {c d:Sm}:Q2 c d τ false S=d τ S:=rfl
@[simp]def E1 {t:Te}{c d:Sm}:vD t c d τ S=RS.of (t τ S) (Q2 c d τ):=rfl
abbrev Qd (g:Tg)(τ:ae)(a:A)(S:iH):RS:=RS.of (g a τ S) .nx
@[simp]def BQ {g:Tg}:Qd g τ a S=RS.of (g a τ S) .nx:=rfl
@[simp]def B9 {e:Ex}{g:Tg}:jn e g τ S=RS.of (e τ S) (Qd g τ):=rfl
@[simp]def RB {i:Nat}:je i a τ S=.ok (τ.set i a) S:=rfl
abbrev NU (a o:A)(τ:ae)(i:A)(S:iH):R (ae):=(y9 o i a S).bind λ_ S3=>.ok τ S3
abbrev Tt (j:Ex)(τ:ae)(a o:A)(S:iH):R (ae):=(j τ S).bind<|NU a o τ
@[simp]def BW {o i:A}:NU a o τ i S=(y9 o i a S).bind λ_ S3=>.ok τ S3:=rfl
@[simp]def Jg {j:Ex}{o:A}:Tt j τ a o S=(j τ S).bind (NU a o τ):=rfl
@[simp]def E4 {co j:Ex}:OQ co j a τ S=(co τ S).bind (Tt j τ a):=rfl
@[simp]def GC {n:Nat}{gs:Jo}{xs:ae}:Ak n gs (.tup xs) τ S=gd (xs.length=n) (gs xs τ S):=rfl
@[simp]def FA:CC [] τ S=.ok τ S:=rfl
@[simp]def HR {g:Tg}{gs:Jo}{j:ae}:tN g gs (a::j) τ S=(g a τ S).bind (gs j):=rfl
abbrev SW (i j:Nat)(τ:ae)(J:ae)(S:iH):RS:=match J with
 | [a,b]=>.nx ((τ.set i a).set j b) S
 | _=>.no
@[simp]def EG {i j:Nat}:SW i j τ [a,b] S=.nx ((τ.set i a).set j b) S:=rfl
@[simp]def CM {i j:Nat}{c:n8}:Rf i j c τ S=RS.of (c τ S) (SW i j τ):=rfl
abbrev FQ (i:Nat)(τ:ae)(c:A)(S:iH):RS:=.nx (τ.set i c) S
abbrev Qq (i:Nat)(f:A->A->iH->R A)(τ:ae)(b:A)(S:iH):RS:=.of (f (τ.getD i .unb) b S)<|FQ i τ
@[simp]def yL {i:Nat}:FQ i τ a S=.nx (τ.set i a) S:=rfl
@[simp]def Cc {i:Nat}{f:A->A->iH->R A}:Qq i f τ a S=.of (f (τ.getD i .unb) a S) (FQ i τ):=rfl
@[simp]def Ce {i:Nat}{f:A->A->iH->R A}{e:Ex}:z6 i f e τ S=bif (τ.getD i .unb).kZ then .no else .of (e τ S) (Qq i f τ):=by
 unfold z6;cases(τ.getD i .unb).kZ<;>rfl
abbrev Sw (o i:A)(τ:ae)(z:A)(S:iH):RS:=.of (y9 o i z S) λ_ d=>.nx τ d
abbrev RK (f:A->A->iH->R A)(o i x:A)(τ:ae)(y:A)(S:iH):RS:=.of (f x y S)<|Sw o i τ
abbrev RN (j:Ex)(f:A->A->iH->R A)(o i:A)(τ:ae)(x:A)(S:iH):RS:=.of (j τ S)<|RK f o i x τ
abbrev Sd (j:Ex)(f:A->A->iH->R A)(o:A)(τ:ae)(i:A)(S:iH):RS:=.of (JN o i S)<|RN j f o i τ
abbrev S_ (j J:Ex)(f:A->A->iH->R A)(τ:ae)(o:A)(S:iH):RS:=.of (j τ S)<|Sd J f o τ
@[simp]def EM {o i:A}:Sw o i τ a S=.of (y9 o i a S) λ_ S6=>.nx τ S6:=rfl
@[simp]def F2 {f:A->A->iH->R A}{o i x:A}:RK f o i x τ a S=.of (f x a S) (Sw o i τ):=rfl
@[simp]def Ji {j:Ex}{f:A->A->iH->R A}{o i:A}:RN j f o i τ a S=.of (j τ S) (RK f o i a τ):=rfl
@[simp]def E2 {j:Ex}{f:A->A->iH->R A}{o:A}:Sd j f o τ a S=.of (JN o a S) (RN j f o a τ):=rfl
@[simp]def FD {j J:Ex}{f:A->A->iH->R A}:S_ j J f τ a S=.of (j τ S) (Sd J f a τ):=rfl
@[simp]def ze {co j J:Ex}{f:A->A->iH->R A}:QI co j J f τ S=RS.of (co τ S) (S_ j J f τ):=rfl
abbrev RS.end (r:RS):R A:=match r with
 | .rt a d=>.ok a d
 | .nx _ d=>.ok .non d
 | .ex c d=>.ex c d
 | _=>.no
@[simp]def RS.Ik:RS.end (.rt a S)=.ok a S:=rfl
@[simp]def RS.HP:RS.end (.nx τ S)=.ok .non S:=rfl
@[simp]def RS.Fo {c:Str}:RS.end (.ex c S)=.ex c S:=rfl
theorem uq {N:ar}{m:Sm}{j:ae}:lu N m j S=RS.end (m (j++List.replicate (N.length-j.length) .unb) S):=by
 unfold lu RS.end;cases m (j++List.replicate (N.length-j.length) .unb) S<;>rfl
@[simp]def F4 {i j:Int}:ow (.int i) (.int j) S=.ok (.int<|i+j) S:=rfl
@[simp]def F5 {i j:Int}:aSub (.int i) (.int j) S=.ok (.int<|i-j) S:=rfl
@[simp]def HF {i j:Int}:JU (.int i) (.int j) S=.ok (.int<|i+j) S:=rfl
theorem HS{i j:Int}(h:-18446744073709551616<i)(h':i<18446744073709551616):zY (.int i) (.int j) S=.ok (.int<|i * j) S:=j7<|by unfold BY;simp;left;exact⟨by omega,by omega⟩
def Jh{i j:Int}(h:0<j)(h':j<1073741824):AZ (.int i) (.int j) S=.ok (.int<|i / j) S:=j7 ⟨h,()⟩
def zl{i j:Int}(h:0<j):xC (.int i) (.int j) S=.ok (.int<|i % j) S:=j7 h
@[simp]def LC {i j:Int}:EA (.int i) (.int j) S=.ok (.bl<|decide<|i<j) S:=rfl
@[simp]def Mr {i j:Int}:xZ (.int i) (.int j) S=.ok (.bl<|decide<|i<=j) S:=rfl
@[simp]def My {i j:Int}:MT (.int i) (.int j) S=.ok (.bl<|decide<|j<i) S:=rfl
@[simp]def LI {i j:Int}:PZ (.int i) (.int j) S=.ok (.bl<|decide<|j<=i) S:=rfl
@[simp]def LD {i j:Bool}:LZ false (.bl i) (.bl j) S=.ok (.bl<|i == j) S:=rfl
@[simp]def Fv {i j:Bool}:LZ true (.bl i) (.bl j) S=.ok (.bl<|i != j) S:=rfl
@[simp]def Gj {i:Int}:DO (.int i) S=.ok (.int<|-i) S:=rfl
@[simp]def Fb {xs:ae}:kX (.tup xs) S=.ok (.int xs.length) S:=rfl
@[simp]def Hj {xs:ae}:kX (.frz xs) S=.ok (.int xs.length) S:=rfl
@[simp]def Gk {n:Nat}:kX (.ref n) S=opt (iC S n) λxs=>.ok (.int xs.length) S:=rfl
@[simp]def Hv {i:Int}:Ss (.int i) S=.ok (.int<|if i<0 then -i else i) S:=rfl
@[simp]def A8 {i j:Int}:Bw (.int i) (.int j) S=.ok (.int<|if j>i then j else i) S:=rfl
@[simp]def C7 {i j:Int}:HN (.int i) (.int j) S=.ok (.int<|if j<i then j else i) S:=rfl
@[simp]def CG {i:Int}:LX (.int i) S=.ok (.int i) S:=rfl
@[simp]def A2 {i:Bool}:LX (.bl i) S=.ok (.int<|if i then 1 else 0) S:=rfl
@[simp]def v8 {i j:Int}:wL (.int i) (.int j) S=.ok (.rng i j) S:=rfl
@[simp]def Lq {xs:ae}{i:Int}:o6 (.tup xs) (.int i) S=opt (oY xs i) λx=>.ok x S:=rfl
@[simp]def L7 {xs:ae}{i:Int}:o6 (.frz xs) (.int i) S=opt (oY xs i) λx=>.ok x S:=rfl
@[simp]def LA {n:Nat}{i:Int}:o6 (.ref n) (.int i) S=opt (iC S n) λxs=>opt (oY xs i) λx=>.ok x S:=rfl
@[simp]def IU {n:Nat}{k:Int}:y9 (.ref n) (.int k) a S=opt (iC S n) λxs=>opt (zL xs.length k) λj=>.ok Unit.unit (S.set n<|.lst<|xs.set j a):=rfl
@[simp]def FO {n:Nat}{i:Int}:JN (.ref n) (.int i) S=opt (iC S n) λxs=>gd (0<=i) (opt (xs[i.toNat]?) λx=>.ok x S):=rfl
theorem D6{i j:Int}(h:wu i j):pB (.rng i j) S=.ok (.ref S.length) (S++[.lst<|(jZ i j).map .int]):=j7 h
@[simp]def C4 {xs:ae}:pB (.tup xs) S=.ok (.ref S.length) (S++[.lst xs]):=rfl
@[simp]def Ci {xs:ae}:pB (.frz xs) S=.ok (.ref S.length) (S++[.lst xs]):=rfl
@[simp]def CY {n:Nat}:pB (.ref n) S=opt (iC S n) λxs=>.ok (.ref S.length) (S++[.lst xs]):=rfl
@[simp]def zj {xs:ae}:GX (.tup xs) S=.ok (.tup xs) S:=rfl
@[simp]def yT {n:Nat}:GX (.ref n) S=opt (iC S n) λxs=>.ok (.tup xs) S:=rfl
@[simp]def GV {xs:ae}:FZ (.tup xs) S=.ok (.tup xs.reverse) S:=rfl
@[simp]def Ff {n:Nat}:FZ (.ref n) S=opt (iC S n) λxs=>.ok (.ref S.length) (S++[.lst xs.reverse]):=rfl
@[simp]def Ms {n:Nat}{l u:bj}:OP (.ref n) l u S=opt (iC S n) λxs=>.ok (.ref S.length) (S++[.lst<|yj xs l u]):=rfl
@[simp]def vm {n:Nat}:lE (.ref n) [a] S=opt (iC S n) λxs=>gd (xs.length<sizeLine) (.ok .non<|S.set n<|.lst<|xs++[a]):=rfl
@[simp]def HV {b:Bool}:A.PB (.bl b) S=some b:=rfl
@[simp]def BN {i:Int}:A.PB (.int i) S=some (i != 0):=rfl
theorem N_{o:O}:(S++[o])[S.length]?=some o:=by simp
@[simp]def iW {xs:ae}:iC (S++[.lst xs]) S.length=some xs:=rD N_
theorem lC{o:O}{n:Nat}(h:iC S n=some xs):iC (S++[o]) n=some xs:=by
 have h':=iP h;exact rD<|by rw[aR (aL.mp h').1];exact h'
def mO{n:Nat}(h:iC S n=some xs):n<S.length:=(aL.mp<|iP h).1
def oM{n:Nat}(h:n<S.length):iC (S.set n<|.lst ys) n=some ys:=rD<|bG h
def k9{n:Nat}(h:n≠m):iC (S.set n<|.lst ys) m=iC S m:=by unfold iC;rw[bF h]
def oB{xs:ae}{i:Int}{k:Nat}{x:A}(h:i=k)(hx:xs[k]?=some x):oY xs i=some x:=by rw[h];exact Lb hx
def xA{n:Nat}{i:Int}{k:Nat}(h:i=k)(j:k<n):zL n i=some k:=by
 subst h;unfold zL;rw[aS (),aS ()];simp
end
structure Kp (b:Nat->Prop)(S S':iH):Prop where
 len:S.length<=S'.length
 obj:∀(n:Nat) (o:O),¬b n->S[n]?=some o->S'[n]?=some o
meta abbrev mQ:=Kp λ_=>False
def Kp.lst{b:Nat->Prop}(h:Kp b S S')(n:Nat)(xs:ae)(hb:¬b n)(e:iC S n=some xs):iC S' n=some xs:=rD<|h.obj n _ hb<|iP e
def Kp.dct{b:Nat->Prop}(h:Kp b S S')(n:Nat)(xs:List<|ag×A)(hb:¬b n)(e:jJ S n=some xs):jJ S' n=some xs:=rJ<|h.obj n _ hb<|jF e
def Kp.refl{b:Nat->Prop}:Kp b S S:=⟨aO _,λ_ _ _ h=>h⟩
def Kp.trans{b:Nat->Prop}(h:Kp b S S1)(h':Kp b S1 S2):Kp b S S2:=⟨bC h.len h'.len,λn xs hb e=>h'.obj n xs hb<|h.obj n xs hb e⟩
def qt{S:iH}{n:Nat}(e:S[n]?=some o):n<S.length:=(aL.mp e).1
def Kp.lay{b:Nat->Prop}{o:O}(h:Kp b S S1):Kp b S (S1++[o]):=⟨bC h.len<|by simp,λn xs hb e=>by
 have:=h.obj n xs hb e;rw[aR<|qt this];exact this⟩
def Kp.F0{b:Nat->Prop}{S S1:iH}(h:Kp b S S1)(hm:b m\/S.length<=m):Kp b S (S1.set m o):=⟨by rw[bH];exact h.len,λn xs hb e=>by
 have:m≠n:=λz=>by
  subst z
  rcases hm with z|z
  ·exact hb z
  ·exact absurd (qt e) ()
 rw[bF this];exact h.obj n xs hb e⟩
def Kp.set{b:Nat->Prop}{S S1:iH}(h:Kp b S S1)(hm:b m\/S.length<=m):Kp b S (S1.set m<|.lst ys):=h.F0 hm
def Kp.old{b c:Nat->Prop}{S:iH}(h:Kp b S S1)(h':Kp c S1 S2)(hc:∀n,n<S.length->¬b n->¬c n):Kp b S S2:=⟨bC h.len h'.len,λn xs hb e=>h'.obj n xs (hc n (qt e) hb)<|h.obj n xs hb e⟩
theorem pJ{t:Te}{c:Sm}(Inv:ae->iH->Prop)(J:ae->iH->Nat)(j:RS->Prop)
  (h:∀τ S,Inv τ S->(∃S1,t τ S=.ok false S1/\j (.nx τ S1))\/(∃S1,t τ S=.ok true S1/\((∃τ' S',c τ S1=.nx τ' S'/\Inv τ' S'/\J τ' S'<J τ S)\/(∃a S',c τ S1=.rt a S'/\j (.rt a S'))))) :
  ∀n τ S,Inv τ S->J τ S<n->j (j9 t c n τ S)
 | 0,_,_,_,hn=>absurd hn (cL _)
 | n+1,τ,S,hi,hn=>by
  unfold j9
  rcases h τ S hi with⟨S1,e,q⟩|⟨S1,e,⟨τ',S',e2,d,hm⟩|⟨a,S',e2,q⟩⟩
  ·rw[e];exact q
  ·rw[e];show j (match c τ S1 with
    | .nx τ' S'=>j9 t c n τ' S'
    | .ct τ' S'=>j9 t c n τ' S'
    | .bk τ' S'=>.nx τ' S'
    | r=>r)
   rw[e2];exact pJ Inv J j h n τ' S' d ()
  ·rw[e];show j (match c τ S1 with
    | .nx τ' S'=>j9 t c n τ' S'
    | .ct τ' S'=>j9 t c n τ' S'
    | .bk τ' S'=>.nx τ' S'
    | r=>r)
   rw[e2];exact q
theorem sA{s:Src}{g:Tg}{c:Sm}(Inv:Nat->ae->iH->Prop)(j:RS->Prop)
  (step:∀i τ S,i<s.k->Inv i τ S->∃x τ1 S1,s.get i S=some x/\g x τ S=.ok τ1 S1/\((∃τ' S',c τ1 S1=.nx τ' S'/\Inv (i+1) τ' S')\/(∃a S',c τ1 S1=.rt a S'/\j (.rt a S'))))
  (fin:∀τ S,Inv s.k τ S->s.fin S=true/\j (.nx τ S)):∀k i τ S,k+i=s.k->Inv i τ S->j (nh s g c k i τ S)
 | 0,i,τ,S,hk,hi=>by
  have:i=s.k:=()
  subst this;obtain⟨hf,q⟩:=fin τ S hi;unfold nh;rw[aS hf];exact q
 | k+1,i,τ,S,hk,hi=>by
  obtain⟨x,τ1,S1,hx,hg,h⟩:=step i τ S () hi;unfold nh;rw[hx];show j (RS.of (g x τ S) λτ1 S1=>match c τ1 S1 with
   | .nx τ' S'=>nh s g c k (i+1) τ' S'
   | .ct τ' S'=>nh s g c k (i+1) τ' S'
   | .bk τ' S'=>.nx τ' S'
   | r=>r)
  rw[hg];show j (match c τ1 S1 with
   | .nx τ' S'=>nh s g c k (i+1) τ' S'
   | .ct τ' S'=>nh s g c k (i+1) τ' S'
   | .bk τ' S'=>.nx τ' S'
   | r=>r)
  rcases h with⟨τ',S',e,d⟩|⟨a,S',e,q⟩
  ·rw[e];exact sA Inv j step fin k (i+1) τ' S' () d
  ·rw[e];exact q
def rG{lo hi:Int}{c:Sm}{src:Ic}{τ:ae}(hs:src τ S=.ok (oO lo hi) S1)(Inv:Nat->ae->iH->Prop)(J:RS->Prop)(h0:Inv 0 τ S1)
  (step:∀(i:Nat) τ S,(i:Int)<hi-lo->Inv i τ S->(∃τ' S',c (τ.set j<|.int<|lo+i) S=.nx τ' S'/\Inv (i+1) τ' S')\/(∃a S',c (τ.set j<|.int<|lo+i) S=.rt a S'/\J (.rt a S')))
  (L:∀τ S,Inv (hi-lo).toNat τ S->J (.nx τ S)):J (m8 src (je j) c τ S):=by
 unfold m8;rw[hs];refine sA (s:=oO lo hi) Inv J (λi τ S d h=>?_) (λτ S h=>⟨rfl,L τ S h⟩) _ 0 τ S1 rfl h0;have d:i<(hi-lo).toNat:=d;exact⟨.int<|lo+i,_,S,aS d,rfl,step i τ S (by omega) h⟩
def CQ{xs:ae}{g:Tg}{c:Sm}{src:Ic}(hs:src τ S=.ok (nJ xs) S1)(Inv:Nat->ae->iH->Prop)(j:RS->Prop)(h0:Inv 0 τ S1)
  (step:∀(i:Nat) x τ S,xs[i]?=some x->Inv i τ S->∃τ1 S1,g x τ S=.ok τ1 S1/\((∃τ' S',c τ1 S1=.nx τ' S'/\Inv (i+1) τ' S')\/(∃a S',c τ1 S1=.rt a S'/\j (.rt a S'))))
  (J:∀τ S,Inv xs.length τ S->j (.nx τ S)):j (m8 src g c τ S):=by
 unfold m8;rw[hs];refine sA (s:=nJ xs) Inv j (λi τ S d h=>?_) (λτ S h=>⟨rfl,J τ S h⟩) _ 0 τ S1 rfl h0;have d:i<xs.length:=d;obtain⟨τ1,S1,e,q⟩:=step i xs[i] τ S (aH d) h;exact⟨xs[i],τ1,S1,aH d,e,q⟩
def JI{n:Nat}{xs:ae}{g:Tg}{c:Sm}{src:Ic}(hs:src τ S=.ok (jd n xs.length) S1)(Inv:Nat->ae->iH->Prop)(j:RS->Prop)(h0:Inv 0 τ S1)(L:∀i τ S,Inv i τ S->iC S n=some xs)
  (step:∀(i:Nat) x τ S,xs[i]?=some x->Inv i τ S->∃τ1 S1,g x τ S=.ok τ1 S1/\((∃τ' S',c τ1 S1=.nx τ' S'/\Inv (i+1) τ' S')\/(∃a S',c τ1 S1=.rt a S'/\j (.rt a S'))))
  (J:∀τ S,Inv xs.length τ S->j (.nx τ S)):j (m8 src g c τ S):=by
 unfold m8;rw[hs];refine sA (s:=jd n xs.length) Inv j (λi τ S d h=>?_) (λτ S h=>⟨?_,J τ S h⟩) _ 0 τ S1 rfl h0
 ·have d:i<xs.length:=d;obtain⟨τ1,S1,e,q⟩:=step i xs[i] τ S (aH d) h;exact⟨xs[i],τ1,S1,by show(iC S n).bind _=_;rw[L i τ S h];exact aH d,e,q⟩
 ·show(match iC S n with
   | some ys=>decide (ys.length<=xs.length)
   | none=>false)=true
  rw[L _ τ S h];exact bh<|aO _
@[simp]def pF {c:Ex}{τ:ae}{S S1:iH}{j:Int}(h:c τ S=.ok (.int j) S1)(hb:bnd j):qk c τ S=.ok (oO 0 j) S1:=by
 unfold qk;rw[h];exact j7 hb
def Gp{c d:Ex}{i j:Int}(h:c τ S=.ok (.int i) S1)(h':d τ S1=.ok (.int j) S2)(hb:bnd i)(J:bnd j):uX c d τ S=.ok (oO i j) S2:=by
 unfold uX;rw[h];show(d τ S1).bind _=_;rw[h'];exact j7 ⟨hb,J⟩
def k_{c:Ex}{n:Nat}{xs:ae}(h:c τ S=.ok (.ref n) S1)(j:iC S1 n=some xs):jW c τ S=.ok (jd n xs.length) S1:=by
 unfold jW;rw[h];show opt (iC S1 n) _=_;rw[j];rfl
theorem oJ{s:Src}{g:Tg}{t:Te}{e:Ex}{P:iH->Prop}{T:ae->Prop}(it:Nat->A)(p:Nat->Bool)(f:Nat->A)
  (J:∀i S,i<s.k->P S->s.get i S=some (it i)) (L:∀S,P S->s.fin S=true)
  (step:∀i τ S,i<s.k->T τ->P S->∃τ1 S1 S2,g (it i) τ S=.ok τ1 S1/\t τ1 S1=.ok (p i) S2/\T τ1/\(p i=false->P S2)/\(p i=true->∃S3,e τ1 S2=.ok (f i) S3/\P S3)) :
  ∀k i τ S,k+i=s.k->T τ->P S->∃S',jS s g t e k i τ S=.ok (((List.range' i k).filter p).map f) S'/\P S'
 | 0,i,τ,S,hk,hT,hP=>⟨S,by unfold jS;rw[aS<|L S hP];rfl,hP⟩
 | k+1,i,τ,S,hk,hT,hP=>by
  obtain⟨τ1,S1,S2,hg,B,d,C,m⟩:=step i τ S (by omega) hT hP;unfold jS;rw[J i S (by omega) hP,iU,hg,R.jc,B,R.jc,List.range'_succ,gf]
  cases hp:p i with
  | false=>
   obtain⟨S',h1,h2⟩:=oJ it p f J L step k (i+1) τ1 S2 (by omega) d<|C hp;exact⟨S',by simpa using h1,h2⟩
  | true=>
   obtain⟨S3,z,j⟩:=m hp;obtain⟨S',h1,h2⟩:=oJ it p f J L step k (i+1) τ1 S3 (by omega) d j;refine⟨S',?_,h2⟩
   skip
   rw[z,R.jc,h1];rfl
def tD{s:Src}{src:Ic}{t:Te}{e:Ex}{S1:iH}(hs:src τ S=.ok s S1)(it:Nat->A)(p:Nat->Bool)(f:Nat->A)(J:∀i,i<s.k->s.get i S1=some (it i))(L:s.fin S1=true)
  (M:∀i,i<s.k->t (it i::lH cap τ) S1=.ok (p i) S1) (U:∀i,i<s.k->p i=true->e (it i::lH cap τ) S1=.ok (f i) S1) (Z:s.k<=16777216) :
  jE (none::cap) src (je 0) t e τ S=.ok (.ref S1.length) (S1++[.lst<|((List.range s.k).filter p).map f]):=by
 unfold jE;rw[hs,R.jR];obtain⟨j,h1,h2⟩:=oJ (s:=s) (g:=je 0) (t:=t) (e:=e) (P:=λS=>S=S1) (T:=λd=>∃y,d=y::lH cap τ) it p f (λi S hi h=>by subst h;exact J i hi) (λS h=>by subst h;exact L)
  (λi d S hi ⟨y,hy⟩ h=>by
   subst h hy;exact⟨it i::lH cap τ,S,S,rfl,M i hi,⟨_,rfl⟩,λ_=>rfl,λhp=>⟨S,U i hi hp,rfl⟩⟩) s.k 0 (lH (none::cap) τ) S1 rfl ⟨_,rfl⟩ rfl
 subst h2;rw[h1,R.jc,gp];refine jv ?_;rw[aN];refine bC (List.length_filter_le _ _) ?_;rw[fG];exact Z
def nV{α β:Type}(xs:List α)(p:α->Bool)(f:α->β):∀(d:α) ,(((List.range xs.length).filter λi=>p<|xs.getD i d).map λi=>f<|xs.getD i d)=(xs.filter p).map f:=by
 intro d
 induction xs with
 | nil=>rfl
 | cons x xs g=>
  rw[bw,List.range_succ_eq_map,gf,gf];have e:((List.filter (λi=>p<|(x::xs).getD i d)<|List.map Nat.succ<|List.range xs.length).map λi=>f<|(x::xs).getD i d)=(xs.filter p).map f:=by
   rw[iy,bM];rw[<- g];rfl
  show List.map _ (if p x=true then _ else _)=List.map f (if p x=true then _ else _);by_cases hp:p x=true
  ·rw[aS hp,aS hp,bD,bD,e];rfl
  ·rw[aU hp,aU hp,e]
def G6{xs:ae}{src:Ic}{t:Te}{e:Ex}{S1:iH}(hs:src τ S=.ok (nJ xs) S1)(p:A->Bool)(f:A->A)
  (j:∀x∈xs,t (x::lH cap τ) S1=.ok (p x) S1) (J:∀x∈xs,p x=true->e (x::lH cap τ) S1=.ok (f x) S1) (L:xs.length<=16777216) :
  jE (none::cap) src (je 0) t e τ S=.ok (.ref S1.length) (S1++[.lst<|(xs.filter p).map f]):=by
 have hm:∀i,i<xs.length->xs.getD i .unb∈xs:=λi hi=>by
  rw[aI,aH hi];exact cU hi
 rw[tD hs (λi=>xs.getD i .unb) (λi=>p<|xs.getD i .unb) (λi=>f<|xs.getD i .unb) (λi hi=>by
  have hi:i<xs.length:=hi;show xs[i]?=_;rw[aI,aH hi];rfl) rfl (λi hi=>j _<|hm i hi) (λi hi=>J _<|hm i hi) L]
 have:=nV xs p f .unb;show R.ok _ (S1++[O.lst<|((List.range xs.length).filter _).map _])=_;rw[this]
@[simp]def E3 {cap:List<|bo}{τ:ae}:lH (none::cap) τ=.unb::lH cap τ:=rfl
@[simp]def F6 {cap:List<|bo}{τ:ae}{j:Nat}:lH (some j::cap) τ=τ.getD j .unb::lH cap τ:=rfl
@[simp]def ym {τ:ae}:lH [] τ=[]:=rfl
theorem Mb{x:A}:oY (x::xs) 0=some x:=oB (k:=0) rfl rfl
def LJ{x:A}:oY (x::y::xs) 1=some y:=oB (k:=1) rfl rfl
def uc{ns:ag}{i:Int}{k:Nat}{x:Int}(h:i=k)(hx:ns[k]?=some x):oY (ns.map A.int) i=some (.int x):=oB h<|by rw[aY,hx];rfl
def mU{j:Int}(h:-4611686018427387904<=j)(h':j<4611686018427387904):bnd j:=⟨(),()⟩
def GL{i j:Int}(h1:-1000000<=i)(h2:i<=1000000)(J:-1000000<=j)(L:j<=1000000)(M:j-i<=1000):wu i j:=⟨⟨(),(),(),()⟩,()⟩
theorem ints_map:∀(ns:ag),A.ints (ns.map .int)=some ns
 | []=>rfl
 | n::ns=>by show(A.ints<|ns.map .int).map (n::·)=_;rw[ints_map ns];rfl
theorem wF{n:Nat}:∀(xs ys:ag),vn (v_ S<|n+1) (xs.map .int) (ys.map .int)=some (decide<|xs=ys)
 | [],[]=>rfl
 | [],_::_=>rfl
 | _::_,[]=>rfl
 | x::xs,y::ys=>by
  skip
  skip
  show Option.map _ (vn (v_ S<|n+1) (xs.map .int)<|ys.map .int)=_;rw[wF xs ys]
  skip
  by_cases h1:x=y<;>by_cases h2:xs=ys<;>simp[h1,h2]
@[simp]def Mx {S:iH}{x y:Bool}:uv false (.bl x) (.bl y) S=.ok (.bl<|x == y) S:=rfl
@[simp]def Ma {S:iH}{x y:Bool}:uv true (.bl x) (.bl y) S=.ok (.bl<|!(x == y)) S:=rfl
@[simp]def L_ {S:iH}{x y:Int}:uv false (.int x) (.int y) S=.ok (.bl<|x == y) S:=rfl
@[simp]def Lv {S:iH}{x y:Int}:uv true (.int x) (.int y) S=.ok (.bl<|!(x == y)) S:=rfl
@[simp]def BK {S:iH}:LZ false .non .non S=.ok (.bl true) S:=rfl
@[simp]def Dc {S:iH}{xs:ae}:LZ false (.tup xs) .non S=.ok (.bl false) S:=rfl
@[simp]def BX {S:iH}{n:Nat}:LZ false (.ref n) .non S=.ok (.bl false) S:=rfl
@[simp]def yK {S:iH}:LZ true .non .non S=.ok (.bl false) S:=rfl
@[simp]def yf {S:iH}{xs:ae}:LZ true (.tup xs) .non S=.ok (.bl true) S:=rfl
@[simp]def zf {S:iH}{n:Nat}:LZ true (.ref n) .non S=.ok (.bl true) S:=rfl
@[simp]def BU {S:iH}{x:A}{c:String}:DX x (.ty c) S=opt (x.kd S) λk=>opt (zz k c) λb=>.ok (.bl b) S:=rfl
@[simp]def Mq {S:iH}{b:Bool}:A.kd (.bl b) S=some .bl:=rfl
@[simp]def Il {S:iH}{b:Int}:A.kd (.int b) S=some .int:=rfl
@[simp]def EE {S:iH}{b:ae}:A.kd (.tup b) S=some .tup:=rfl
@[simp]def Gi {S:iH}:A.kd .non S=some .non:=rfl
@[simp]def Jf {S:iH}{b:Str}:A.kd (.str b) S=some .str:=rfl
@[simp]def ED {S:iH}{n:Nat}:A.kd (.ref n) S=(iC S n).map λ_=>.lst:=rfl
@[simp]def Gs {S:iH}:newL [] S=.ok (.ref S.length) (S++[.lst []]):=jv<|by simp
@[simp]def Ho {S:iH}{j:A}:newL [j] S=.ok (.ref S.length) (S++[.lst [j]]):=jv<|by simp
@[simp]def E_ {S:iH}{j J:A}:newL [j,J] S=.ok (.ref S.length) (S++[.lst [j,J]]):=jv<|by simp
@[simp]def GR {S:iH}{j J L:A}:newL [j,J,L] S=.ok (.ref S.length) (S++[.lst [j,J,L]]):=jv<|by simp
@[simp]def G8 {S:iH}{j J L M:A}:newL [j,J,L,M] S=.ok (.ref S.length) (S++[.lst [j,J,L,M]]):=jv<|by simp
@[simp]def Hi {S:iH}{j J L M U:A}:newL [j,J,L,M,U] S=.ok (.ref S.length) (S++[.lst [j,J,L,M,U]]):=jv<|by simp
@[simp]def Fj {S:iH}{j J L M U Z:A}:newL [j,J,L,M,U,Z] S=.ok (.ref S.length) (S++[.lst [j,J,L,M,U,Z]]):=jv<|by simp
@[simp]def GQ {S:iH}{j J L M U Z x6:A}:newL [j,J,L,M,U,Z,x6] S=.ok (.ref S.length) (S++[.lst [j,J,L,M,U,Z,x6]]):=jv<|by simp
@[simp]def Hq {S:iH}{j J L M U Z x6 x7:A}:newL [j,J,L,M,U,Z,x6,x7] S=.ok (.ref S.length) (S++[.lst [j,J,L,M,U,Z,x6,x7]]):=jv<|by simp
@[simp]def Gu {S:iH}{j J L M U Z x6 x7 x8:A}:newL [j,J,L,M,U,Z,x6,x7,x8] S=.ok (.ref S.length) (S++[.lst [j,J,L,M,U,Z,x6,x7,x8]]):=jv<|by simp
@[simp]def BF {S:iH}{j J L M U Z x6 x7 x8 x9:A}:newL [j,J,L,M,U,Z,x6,x7,x8,x9] S=.ok (.ref S.length) (S++[.lst [j,J,L,M,U,Z,x6,x7,x8,x9]]):=jv<|by simp
theorem qH{α:Type}{n:Nat}{r:R α}(h:n<=16777216):gd (n<=sizeLine) r=r:=j7<|by rw[cY];exact h
def q_{α:Type}{n:Nat}{r:R α}(h:n<16777216):gd (n<sizeLine) r=r:=j7<|by rw[cY];exact h
def Mg {x:A}{xs:ae}:(x::xs).getD 0 .unb=x:=rfl
def LK {x:A}{xs:ae}{n:Nat}:(x::xs).getD (n+1) .unb=xs.getD n .unb:=rfl
def Qx {x y:A}{xs:ae}:(x::xs).set 0 y=y::xs:=rfl
def sets {x y:A}{xs:ae}{n:Nat}:(x::xs).set (n+1) y=x::xs.set n y:=rfl
def rep0 {x:A}:List.replicate 0 x=[]:=rfl
def reps {x:A}{n:Nat}:List.replicate (n+1) x=x::List.replicate n x:=rfl
def PX {x:A}{xs ys:ae}:(x::xs)++ys=x::(xs++ys):=rfl
def Pn {ys:ae}:[]++ys=ys:=rfl
def PR{S:iH}{n:Nat}{xs ys:ae}(h:iC S n=some xs)(h':iC S m=some ys)(j:xs.length+ys.length<=16777216):ow (.ref n) (.ref m) S=.ok (.ref S.length) (S++[.lst<|xs++ys]):=by
 show opt (iC S n) _=_;rw[h,iU,h',iU];exact j7<|by rw[cY];exact j
abbrev uV (x:A)(S:iH):R A:=bif x.kZ then .no else .ok x S
def Fg {xs:ae}{S:iH}:uV (.tup xs) S=.ok (.tup xs) S:=rfl
def EL {xs:ae}{S:iH}:uV (.frz xs) S=.ok (.frz xs) S:=rfl
def EI {i:Int}{S:iH}:uV (.int i) S=.ok (.int i) S:=rfl
def Lp {b:Bool}{S:iH}:uV (.bl b) S=.ok (.bl b) S:=rfl
def FI {s:Str}{S:iH}:uV (.str s) S=.ok (.str s) S:=rfl
def HZ {n:Nat}{S:iH}:uV (.ref n) S=.ok (.ref n) S:=rfl
def Fd  {S:iH}:uV (.non) S=.ok (.non) S:=rfl
def Hh {i j:Int}{S:iH}:uV (.rng i j) S=.ok (.rng i j) S:=rfl
def Gy {s:Str}{S:iH}:uV (.exn s) S=.ok (.exn s) S:=rfl
def TR {j:A}{xs:ae}{S:iH}:iB 0 (j::xs) S=uV j S:=mq
def SV {J j:A}{xs:ae}{S:iH}:iB 1 (J::j::xs) S=uV j S:=mq
def SY {J L j:A}{xs:ae}{S:iH}:iB 2 (J::L::j::xs) S=uV j S:=mq
def Tc {J L M j:A}{xs:ae}{S:iH}:iB 3 (J::L::M::j::xs) S=uV j S:=mq
def Tu {J L M U j:A}{xs:ae}{S:iH}:iB 4 (J::L::M::U::j::xs) S=uV j S:=mq
def TN {J L M U Z j:A}{xs:ae}{S:iH}:iB 5 (J::L::M::U::Z::j::xs) S=uV j S:=mq
def Tz {J L M U Z x5 j:A}{xs:ae}{S:iH}:iB 6 (J::L::M::U::Z::x5::j::xs) S=uV j S:=mq
def Td {J L M U Z x5 x6 j:A}{xs:ae}{S:iH}:iB 7 (J::L::M::U::Z::x5::x6::j::xs) S=uV j S:=mq
def SS {J L M U Z x5 x6 x7 j:A}{xs:ae}{S:iH}:iB 8 (J::L::M::U::Z::x5::x6::x7::j::xs) S=uV j S:=mq
def Tw {a j:A}{xs:ae}{S:iH}:je 0 a (j::xs) S=.ok (a::xs) S:=rfl
def TY {a j J:A}{xs:ae}{S:iH}:je 1 a (j::J::xs) S=.ok (j::a::xs) S:=rfl
def To {a j J L:A}{xs:ae}{S:iH}:je 2 a (j::J::L::xs) S=.ok (j::J::a::xs) S:=rfl
def TL {a j J L M:A}{xs:ae}{S:iH}:je 3 a (j::J::L::M::xs) S=.ok (j::J::L::a::xs) S:=rfl
def TF {a j J L M U:A}{xs:ae}{S:iH}:je 4 a (j::J::L::M::U::xs) S=.ok (j::J::L::M::a::xs) S:=rfl
def Tf {a j J L M U Z:A}{xs:ae}{S:iH}:je 5 a (j::J::L::M::U::Z::xs) S=.ok (j::J::L::M::U::a::xs) S:=rfl
def Tq {a j J L M U Z x6:A}{xs:ae}{S:iH}:je 6 a (j::J::L::M::U::Z::x6::xs) S=.ok (j::J::L::M::U::Z::a::xs) S:=rfl
def TJ {a j J L M U Z x6 x7:A}{xs:ae}{S:iH}:je 7 a (j::J::L::M::U::Z::x6::x7::xs) S=.ok (j::J::L::M::U::Z::x6::a::xs) S:=rfl
def TH {a j J L M U Z x6 x7 x8:A}{xs:ae}{S:iH}:je 8 a (j::J::L::M::U::Z::x6::x7::x8::xs) S=.ok (j::J::L::M::U::Z::x6::x7::a::xs) S:=rfl
def i8:type_of% (anI @R.jR<|anI @R.Dk<|anI @R.jc<|anI @RS.of_ok<|anI @RS.LW<|anI @iU<|anI @CU<|anI @TR<|anI @SV<|anI @SY<|anI @Tc<|anI @Tu<|anI @TN<|anI @Tz<|anI @Td<|anI @SS<|anI @Fg<|anI @EL<|anI @EI<|anI @Lp<|anI @FI<|anI @HZ<|anI @Fd<|anI @Hh<|anI @Gy<|anI @Dh<|anI @Bx<|anI @Dm<|anI @E9<|anI @BO<|anI @B4<|anI @Cn<|anI @Dg<|anI @Cb<|anI @L5<|anI @Bm<|anI @FF<|anI @Bv<|anI @LU<|anI @IQ<|anI @C3<|anI @Dj<|anI @GK<|anI @Bd<|anI @BH<|anI @CP<|anI @G0<|anI @Gb<|anI @Cy<|anI @Hw<|anI @y_<|anI @Cw<|anI @EH<|anI @C_<|anI @ye<|anI @Bt<|anI @B_<|anI @yi<|anI @Fw<|anI @HB<|anI @L4<|anI @LB<|anI @FL<|anI @yh<|anI @Cu<|anI @zu<|anI @Hy<|anI @CS<|anI @lst?_ref<|anI @RS.Fi<|anI @RS.EK<|anI @RS.Jj<|anI @RS.Hg<|anI @RS.HW<|anI @A3<|anI @Bc<|anI @vY<|anI @zk<|anI @zI<|anI @AY<|anI @zK<|anI @E1<|anI @B9<|anI @Tw<|anI @TY<|anI @To<|anI @TL<|anI @TF<|anI @Tf<|anI @Tq<|anI @TJ<|anI @TH<|anI @E4<|anI @GC<|anI @FA<|anI @HR<|anI @EG<|anI @CM<|anI @Ce<|anI @ze<|anI @RS.Ik<|anI @RS.HP<|anI @RS.Fo<|anI @F4<|anI @F5<|anI @HF<|anI @LC<|anI @Mr<|anI @My<|anI @LI<|anI @LD<|anI @Fv<|anI @Gj<|anI @Fb<|anI @Hj<|anI @Gk<|anI @Hv<|anI @A8<|anI @C7<|anI @CG<|anI @A2<|anI @v8<|anI @Lq<|anI @L7<|anI @LA<|anI @IU<|anI @FO<|anI @C4<|anI @Ci<|anI @CY<|anI @zj<|anI @yT<|anI @GV<|anI @Ff<|anI @Ms<|anI @vm<|anI @HV<|anI @BN<|anI @iW<|anI @E3<|anI @F6<|anI @ym<|anI @Mx<|anI @Ma<|anI @L_<|anI @Lv<|anI @BK<|anI @Dc<|anI @BX<|anI @yK<|anI @yf<|anI @zf<|anI @BU<|anI @Mq<|anI @Il<|anI @EE<|anI @Gi<|anI @Jf<|anI @ED<|anI @Gs<|anI @Ho<|anI @E_<|anI @GR<|anI @G8<|anI @Hi<|anI @Fj<|anI @GQ<|anI @Hq<|anI @Gu<|anI @BF<|anI @Mg<|anI @LK<|anI @Qx<|anI @sets<|anI @rep0<|anI @reps<|anI @PX<|anI @Pn<|anI @uq<|anI @Bb<|anI @ET<|anI @IL<|anI @Lw<|anI @Mk<|anI @ID<|anI @Ht<|anI @vU<|anI @zD<|anI @EB<|anI @C2<|anI @EF<|anI @CJ<|anI @GF<|anI @LO<|anI @LL<|anI @BQ<|anI @BW<|anI @Jg<|anI @yL<|anI @Cc<|anI @FD<|anI @E2<|anI @Ji<|anI @F2<|@EM):=anI @R.jR<|anI @R.Dk<|anI @R.jc<|anI @RS.of_ok<|anI @RS.LW<|anI @iU<|anI @CU<|anI @TR<|anI @SV<|anI @SY<|anI @Tc<|anI @Tu<|anI @TN<|anI @Tz<|anI @Td<|anI @SS<|anI @Fg<|anI @EL<|anI @EI<|anI @Lp<|anI @FI<|anI @HZ<|anI @Fd<|anI @Hh<|anI @Gy<|anI @Dh<|anI @Bx<|anI @Dm<|anI @E9<|anI @BO<|anI @B4<|anI @Cn<|anI @Dg<|anI @Cb<|anI @L5<|anI @Bm<|anI @FF<|anI @Bv<|anI @LU<|anI @IQ<|anI @C3<|anI @Dj<|anI @GK<|anI @Bd<|anI @BH<|anI @CP<|anI @G0<|anI @Gb<|anI @Cy<|anI @Hw<|anI @y_<|anI @Cw<|anI @EH<|anI @C_<|anI @ye<|anI @Bt<|anI @B_<|anI @yi<|anI @Fw<|anI @HB<|anI @L4<|anI @LB<|anI @FL<|anI @yh<|anI @Cu<|anI @zu<|anI @Hy<|anI @CS<|anI @lst?_ref<|anI @RS.Fi<|anI @RS.EK<|anI @RS.Jj<|anI @RS.Hg<|anI @RS.HW<|anI @A3<|anI @Bc<|anI @vY<|anI @zk<|anI @zI<|anI @AY<|anI @zK<|anI @E1<|anI @B9<|anI @Tw<|anI @TY<|anI @To<|anI @TL<|anI @TF<|anI @Tf<|anI @Tq<|anI @TJ<|anI @TH<|anI @E4<|anI @GC<|anI @FA<|anI @HR<|anI @EG<|anI @CM<|anI @Ce<|anI @ze<|anI @RS.Ik<|anI @RS.HP<|anI @RS.Fo<|anI @F4<|anI @F5<|anI @HF<|anI @LC<|anI @Mr<|anI @My<|anI @LI<|anI @LD<|anI @Fv<|anI @Gj<|anI @Fb<|anI @Hj<|anI @Gk<|anI @Hv<|anI @A8<|anI @C7<|anI @CG<|anI @A2<|anI @v8<|anI @Lq<|anI @L7<|anI @LA<|anI @IU<|anI @FO<|anI @C4<|anI @Ci<|anI @CY<|anI @zj<|anI @yT<|anI @GV<|anI @Ff<|anI @Ms<|anI @vm<|anI @HV<|anI @BN<|anI @iW<|anI @E3<|anI @F6<|anI @ym<|anI @Mx<|anI @Ma<|anI @L_<|anI @Lv<|anI @BK<|anI @Dc<|anI @BX<|anI @yK<|anI @yf<|anI @zf<|anI @BU<|anI @Mq<|anI @Il<|anI @EE<|anI @Gi<|anI @Jf<|anI @ED<|anI @Gs<|anI @Ho<|anI @E_<|anI @GR<|anI @G8<|anI @Hi<|anI @Fj<|anI @GQ<|anI @Hq<|anI @Gu<|anI @BF<|anI @Mg<|anI @LK<|anI @Qx<|anI @sets<|anI @rep0<|anI @reps<|anI @PX<|anI @Pn<|anI @uq<|anI @Bb<|anI @ET<|anI @IL<|anI @Lw<|anI @Mk<|anI @ID<|anI @Ht<|anI @vU<|anI @zD<|anI @EB<|anI @C2<|anI @EF<|anI @CJ<|anI @GF<|anI @LO<|anI @LL<|anI @BQ<|anI @BW<|anI @Jg<|anI @yL<|anI @Cc<|anI @FD<|anI @E2<|anI @Ji<|anI @F2<|@EM
def bools:(∀b:Bool,cond false b b=b)/\(∀(α:Type) (x y:α),cond false x y=y)/\(∀(α:Type) (x y:α),cond true x y=x):=⟨λ_=>rfl,λ_ _ _=>rfl,λ_ _ _=>rfl⟩
def mj:(∀(x:Str) (xs:ar),(x::xs).length=xs.length+1)/\([]:ar).length=0/\(∀(x:A) (xs:ae),(x::xs).length=xs.length+1)/\([]:ae).length=0:=⟨λ_ _=>rfl,rfl,λ_ _=>rfl,rfl⟩
section
variable {τ:ae}{S:iH}
def BG {f:ae->iH->R A}{d:n8}:Sz f d τ S=(d τ S).bind f:=rfl
abbrev TV (c:Str):Unit->iH->RS:=λ_ S1=>.ex c S1
def GS {c:Str}{u:Unit}:TV c u S=.ex c S:=rfl
def vS {c:Str}{ps:List<|Str ⊕ Ex}:M9 c ps τ S=RS.of (Kl ps τ S) (TV c):=rfl
def Ct:Kl [] τ S=.ok Unit.unit S:=rfl
def BV {x:Str}{ps:List<|Str ⊕ Ex}:Kl (.inl x::ps) τ S=Kl ps τ S:=rfl
abbrev T8 (ps:List<|Str ⊕ Ex)(τ:ae):A->iH->R Unit:=λv S1=>match v with
 | .int i=>gd (i.natAbs.log2<64) (Kl ps τ S1)
 | _=>.no
def BS {e:Ex}{ps:List<|Str ⊕ Ex}:Kl (.inr e::ps) τ S=(e τ S).bind (T8 ps τ):=rfl
abbrev RS.try (i n:Nat)(cs:ar)(d:Sm):RS->RS
 | .ex x S1=>if x∈cs then Ln i (d ((List.replicate n .unb).set i<|.exn x) S1)else .no
 | r=>r
def BI {i n:Nat}{cs:ar}{c d:Sm}:QM i n cs c d τ S=RS.try i n cs d (c τ S):=by
 unfold QM RS.try;cases c τ S<;>rfl
def GP {i n:Nat}{cs:ar}{d:Sm}:RS.try i n cs d (.nx τ S)=.nx τ S:=rfl
def F7 {i n:Nat}{cs:ar}{d:Sm}{a:A}:RS.try i n cs d (.rt a S)=.rt a S:=rfl
def F1 {i n:Nat}{x:Str}{cs:ar}{d:Sm}:RS.try i n (x::cs) d (.ex x S)=Ln i (d ((List.replicate n .unb).set i<|.exn x) S):=aS<|.head _
def GZ {i:Nat}{a:A}:Ln i (.rt a S)=.rt a S:=rfl
def IG {i:Nat}:Ln i (.nx τ S)=.nx (τ.set i .unb) S:=rfl
abbrev OW (f:Str->bn):A->iH->R A:=λv S1=>match v with
 | .exn x=>opt (f x) λb=>.ok (.bl b) S1
 | _=>.no
def A9 {f:Str->bn}{c:Ex}:SA f c τ S=(c τ S).bind (OW f):=rfl
def GW {x:Str}{b:Bool}{tb:List<|Str×Bool}:OW (Ug ((x,b)::tb)) (.exn x) S=.ok (.bl b) S:=by
 show opt (List.lookup x ((x,b)::tb)) _=_;rw[di,cD];rfl
abbrev R.E7 {α β:Type}(r:R α)(f:α->iH->R β):R β:=match r with
 | .ok a S=>f a S
 | _=>.no
def zc {α β:Type}{a:α}{f:α->iH->R β}:R.E7 (.ok a S) f=f a S:=rfl
def AX {f:ae->iH->R A}{d:n8}:Qz f d τ S=R.E7 (d τ S) f:=by unfold Qz R.E7;cases d τ S<;>rfl
abbrev RS.Sv {α:Type}(r:R α)(f:α->iH->RS):RS:=match r with
 | .ok a S=>f a S
 | _=>.no
def FU {α:Type}{a:α}{f:α->iH->RS}:RS.Sv (.ok a S) f=f a S:=rfl
def A6 {t:Te}{c d:Sm}:PL t c d τ S=RS.Sv (t τ S) (Q2 c d τ):=by
 unfold PL RS.Sv
 cases t τ S with
 | ok b S1=>cases b<;>rfl
 | ex _ _=>rfl
 | no=>rfl
abbrev RS.GU (i:Nat)(cs:ar)(d:Sm)(τ:ae):RS->RS
 | .ex x S1=>if x∈cs then Ln i (d (τ.set i<|.exn x) S1)else .no
 | r=>r
def yc {i:Nat}{cs:ar}{c d:Sm}:Ll i cs c d τ S=RS.GU i cs d τ (c τ S):=by
 unfold Ll RS.GU;cases c τ S<;>rfl
def Di {i:Nat}{cs:ar}{d:Sm}{j:ae}:RS.GU i cs d τ (.nx j S)=.nx j S:=rfl
def Cd {i:Nat}{cs:ar}{d:Sm}{a:A}:RS.GU i cs d τ (.rt a S)=.rt a S:=rfl
def CI {i:Nat}{x:Str}{cs:ar}{d:Sm}:RS.GU i (x::cs) d τ (.ex x S)=Ln i (d (τ.set i<|.exn x) S):=aS<|.head _
def yv:A.J5 []=some []:=rfl
def vQ {b:Bool}{xs:ae}:A.J5 (.bl b::xs)=(A.J5 xs).map (b::·):=rfl
end
def Pw:type_of% (anI @BG<|anI @vS<|anI @GS<|anI @Ct<|anI @BV<|anI @BS<|anI @BI<|anI @GP<|anI @F7<|anI @F1<|anI @GZ<|anI @IG<|anI @A9<|anI @GW<|anI @yv<|anI @vQ<|anI @zc<|anI @AX<|anI @FU<|anI @A6<|anI @yc<|anI @Di<|anI @Cd<|anI @CI<|trivial):=anI @BG<|anI @vS<|anI @GS<|anI @Ct<|anI @BV<|anI @BS<|anI @BI<|anI @GP<|anI @F7<|anI @F1<|anI @GZ<|anI @IG<|anI @A9<|anI @GW<|anI @yv<|anI @vQ<|anI @zc<|anI @AX<|anI @FU<|anI @A6<|anI @yc<|anI @Di<|anI @Cd<|anI @CI<|trivial
end Am
namespace Am
open PySem PySem.Spec PyProof.Rows L2
abbrev Df (K:aA)(x:Str)(st:aG):Prop:=∃(f:aq) (fd:FuncData),PySem.W.nsIn K mainGlobals x=some (some<|.ref f)/\Fun K x x st f fd
inductive En (P:ah) (w:af) (K:aA) (mg:Str->bi) (base:au):Prop
 | mk (h:au) (X:K.In h) (G:h.Ns mainGlobals mg)
section
variable {P:ah}{w:af}{K:aA}{mg:Str->bi}{base:au}{x:Str}{st:aG}{ps:ar}{k:Nat}{F:ae->iH->R A}
def En.at(E:En P w K mg base){f:aq}(h:PySem.W.nsIn K mainGlobals x=some (some<|.ref f)):mg x=some (.ref f):=by
 obtain⟨_,X,G⟩:=E;exact gY X G h
def Df.of{f:aq}{kV j ct:aa}(a:PySem.W.nsIn K mainGlobals x=some (some<|.ref f))(l:K.lookup f=some ⟨oc,od,.func<|PySem.W.fnOf x x (qb st) (ni st) (iT st) .none kV doc j an cdv ct,osl⟩)(c:PySem.W.codeIn K cdv x=true)(k:PySem.W.keepIn K (.ref f)=true):Df K x st:=⟨f,_,a,MR l c k⟩
meta abbrev Bi (x:Str)(st:aG)(ps:ar):Prop:=∀us:ba,us.length=ps.length->∀(kV d g:aa) (j:Option aq) (f ct:aa),bindArgs (PySem.W.fnOf x x (qb st) (ni st) (iT st) .none kV d g j f ct) ⟨us,[]⟩=pure (ps.zip us)
def Df.get(d:Df K x st)(E:En P w K mg base)(b:Bi x st ps):∃f fd,Fun K x x st f fd/\mg x=some (.ref f)/\PySem.W.keepIn K (.ref f)=true/\Binds K fd ps []:=by
 obtain⟨f,fd,a,F⟩:=d;exact⟨f,fd,F,E.at a,F.kp,F.binds λkV g m t j ct us k=>b us k kV g m t j ct⟩
def Df.kA(d:Df K x st)(E:En P w K mg base)(h:∀{f fd},Fun K x x st f fd->FnOk P w K mg base qf k f fd ps (qU K ps.length F))(b:Bi x st ps):tB P w K mg base k x ps F:=by
 obtain⟨f,fd,a,c,e,g⟩:=d.get E b;exact⟨f,fd,h a,c,e,g⟩
end
section
variable {X:Cx}{pos p:Pos}{e1 e2:aF}{x p1 p2:Str}{k K0:Nat}{F:ae->iH->R A}{c1 c2:Ex}
def Ej(G:tB X.prog X.w X.K X.mg X.base k x [p1] F)(hr:Room K0 X.A)(h1:AE X e1 c1)(L:k<=K0<|>δ)(hg:Gl X x<|>ε)(j:(x == ("__debug__" : Str))=false<|>δ)(J:starEach [e1] X.env=(false,eval e1 X.env)::starEach [] X.env<|>ε)(hp:((backTo pos<|starEach [] X.env).any (·.1)=false)<|>ε):AE X (.Call (.Name x p) [e1] [] pos) (eFn F<|iD c1 iO):=Lk G (hr.mono L) (iF h1 iL J) (u5 BL) hg j J hp
def zN(G:tB X.prog X.w X.K X.mg X.base k x [p1,p2] F)(hr:Room K0 X.A)(h1:AE X e1 c1)(h2:AE X e2 c2)(L:k<=K0<|>δ)(hg:Gl X x<|>ε)(j:(x == ("__debug__" : Str))=false<|>δ)(J:starEach [e1,e2] X.env=(false,eval e1 X.env)::starEach [e2] X.env<|>ε)(M:starEach [e2] X.env=(false,eval e2 X.env)::starEach [] X.env<|>ε)(hp:((backTo pos<|starEach [e2] X.env).any (·.1)=false)<|>ε):AE X (.Call (.Name x p) [e1,e2] [] pos) (eFn F<|iD c1<|iD c2 iO):=Lk G (hr.mono L) (iF h1 (iF h2 iL M) J) (u5<|u5 BL) hg j J hp
def uR{N P:ar}{j:Scope}(a:j.kind=.function)(b:j.isCoroutine=false)(c:j.isGenerator=false)(h:N.Nodup/\N.take P.length=P/\(∀x∈P,j.names.lookup x=some .local\/j.names.lookup x=some .cell)/\∀y∈j.names,y.2≠.free):FnScope N P j:=⟨a,b,c,h.1,h.2.1,h.2.2.1,h.2.2.2⟩
end
abbrev pA (S:iH)(n:Nat):Option (List<|Int×A):=match S[n]? with
 | some (.m_ xs)=>some xs
 | _=>none
def nv{n:Nat}(h:pA S n=some xs):S[n]?=some (.m_ xs):=by
 unfold pA at h;split at h
 ·rename_i e;cases h;exact e
 ·cases h
def qV{S:iH}{n:Nat}(h:S[n]?=some (.m_ xs)):pA S n=some xs:=by
 unfold pA;rw[h]
abbrev kQ (kvs:List<|Int×A)(k:Int):Option A:=(kvs.find? λd=>decide<|d.1=k).map (·.2)
abbrev zV (kvs:List<|Int×A)(k:Int)(v:A):List (Int×A):=
 if (kQ kvs k).isSome=true then kvs.map (λd=>if d.1=k then(d.1,v)else d)else kvs++[(k,v)]
section
variable {K:aA}{ρ:bd}{H:Hp}
def D9{p:Int×A}{r:List<|Int×A}{k:Int}(e:p.1=k):kQ (p::r) k=some p.2:=by simp[kQ,cC,e]
def D0{p:Int×A}{r:List<|Int×A}{k:Int}(e:¬p.1=k):kQ (p::r) k=kQ r k:=by simp[kQ,cC,e]
def O1{a b:Int}(e:(Sum.inl a:Key)=Sum.inl b):a=b:=by injection e
theorem DI.look:∀{kvs:List<|Int×A}{ks:List<|Key×V}(k:Int),DI K ρ H kvs ks->(kQ kvs k).isSome=(m7 ks (Sum.inl k:Key)).isSome/\∀x,kQ kvs k=some x->∃v,m7 ks (Sum.inl k:Key)=some v/\AV K ρ H x v
 | [],[],k,_=>⟨rfl,λx h=>nomatch h⟩
 | p::r,q::r',k,⟨⟨e,a⟩,t⟩=>by
  by_cases c:p.1=k
  ·have d:q.1=(Sum.inl k:Key):=by rw[e,c]
   rw[D9 c,pY d];exact⟨rfl,λx h=>by cases h;exact⟨_,rfl,a⟩⟩
  ·have d:¬q.1=(Sum.inl k:Key):=λz=>c<|O1<|e.symm.trans z;rw[D0 c,pV d];exact DI.look k t
theorem DI.repl{x:A}{v:V}(h:AV K ρ H x v)(k:Int):∀{kvs:List<|Int×A}{ks:List<|Key×V},DI K ρ H kvs ks->DI K ρ H (kvs.map λkv=>if kv.1=k then(kv.1,x)else kv) (ks.map λkv=>if kv.1=(Sum.inl k:Key)then(kv.1,v)else kv)
 | [],[],_=>trivial
 | p::r,q::r',⟨⟨e,a⟩,t⟩=>by
  refine⟨?_,DI.repl h k t⟩;dsimp only;by_cases c:p.1=k
  ·rw[aS c,aS<|by rw[e,c]];exact⟨e,h⟩
  ·rw[aU c,aU λz=>c<|O1<|e.symm.trans z];exact⟨e,a⟩
theorem DI.snoc{x:A}{v:V}(h:AV K ρ H x v)(k:Int):∀{kvs:List<|Int×A}{ks:List<|Key×V},DI K ρ H kvs ks->DI K ρ H (kvs++[(k,x)]) (ks++[(Sum.inl k,v)])
 | [],[],_=>⟨⟨rfl,h⟩,trivial⟩
 | p::r,q::r',⟨a,t⟩=>⟨a,DI.snoc h k t⟩
def DI.put{x:A}{v:V}(h:AV K ρ H x v)(k:Int){ks:List<|Key×V}(d:DI K ρ H kvs ks):DI K ρ H (zV kvs k x) (putK ks (Sum.inl k:Key) v):=by
 unfold zV putK;rw[qY,<- (d.look k).1];by_cases c:(kQ kvs k).isSome=true
 ·rw[aS c,aS c];exact DI.repl h k d
 ·rw[aU c,aU c];exact DI.snoc h k d
def DI.length:∀{kvs:List<|Int×A}{ks:List<|Key×V},DI K ρ H kvs ks->kvs.length=ks.length
 | [],[],_=>rfl
 | _::_,_::_,⟨_,t⟩=>cA (·+1) t.length
def Rel.m_{n:Nat}{a:aq}(R:Rel K ρ H S)(j:ρ[n]?=some a)(J:S[n]?=some (.m_ xs)):∃vs,H a=some (.dK vs)/\DI K ρ H xs vs:=R.at n a _ j J
def Rel.Su{S:iH}{p:aq}(R:Rel K ρ H S)(hp:H p=none)(r:DI K ρ H xs vs):Ext ρ (ρ++[p]) H (upd H p<|.dK vs)/\Rel K (ρ++[p]) (upd H p<|.dK vs) (S++[.m_ xs])/\(ρ++[p])[S.length]?=some p:=by
 have ex:Ext ρ (ρ++[p]) H (upd H p<|.dK vs):=⟨⟨dz _ _,λa u _ h=>by rw[iG<|iQ h hp];exact h⟩,λa u h _=>by rw[iG<|iQ h hp];exact h,λa h=>by
  rcases bA.mp h with z|z
  ·exact .inl z
  ·have e:a=p:=by simpa using z
   rw[e];exact .inr hp⟩
 have j:p∉ρ:=R.yw hp;have d:(ρ++[p])[S.length]?=some p:=by rw[<- R.len];simp
 refine⟨ex,⟨by simp[R.len],?_,?_⟩,d⟩
 ·rw[cK];refine⟨R.nd,by simp,λa k b hb e=>?_⟩;have:b=p:=by simpa using hb
  exact j<|by rw[<- this,<- e];exact k
 ·intro n a o h1 h2;by_cases hn:n<S.length
  ·rw[aR<|by rw[R.len];exact hn]at h1;rw[aR hn]at h2;have na:a≠p:=λz=>j (by rw[<- z];exact bz h1);have:=R.at n a o h1 h2
   cases o with
   | lst ys=>obtain⟨f,e,q⟩:=this;exact⟨f,by rw[iG na];exact e,q.ext ex⟩
   | dct _|m_ _|dks _|dcp _=>obtain⟨f,e,q⟩:=this;exact⟨f,by rw[iG na];exact e,q.ext ex⟩
   | dcf _|dkf _=>obtain⟨g,f,e,q⟩:=this;exact⟨g,f,by rw[iG na];exact e,q.ext ex⟩
   | ins _ _=>obtain⟨g,m,e⟩:=this;exact⟨g,m,by rw[iG na];exact e⟩
  ·have e:n=S.length:=by
    have:=(aL.mp h2).1;simp at this
    lia
   subst e;rw[d]at h1
   cases h1
   simp at h2;subst h2;exact⟨vs,i7,r.ext ex⟩
def Rel.zV{S:iH}{n:Nat}{a:aq}(R:Rel K ρ H S)(J:ρ[n]?=some a)(L:S[n]?=some (.m_ xs))(r:DI K ρ H ys ws):Ext ρ ρ H (upd H a<|.dK ws)/\Rel K ρ (upd H a<|.dK ws) (S.set n<|.m_ ys):=by
 obtain⟨B,e,_⟩:=R.at n a _ J L;have ex:Ext ρ ρ H (upd H a<|.dK ws):=⟨⟨cN _,λb u i h=>by
  have:b≠a:=by
   intro z;subst z;rw[e]at h;cases h;exact i
  rw[iG this];exact h⟩,λb u h n=>by
  rw[iG λz=>n<|by rw[z];exact bz J];exact h,λ_ h=>.inl h⟩
 refine⟨ex,by rw[bH];exact R.len,R.nd,λm b o h1 h2=>?_⟩;by_cases hm:m=n
 ·subst hm;rw[J]at h1;cases h1;rw[bG (aL.mp L).1]at h2
  cases h2
  exact⟨ws,i7,r.ext ex⟩
 ·rw[bF<|cj hm]at h2;have nb:b≠a:=λz=>by
   subst z;obtain⟨k,e1⟩:=aL.mp J;obtain⟨t,e2⟩:=aL.mp h1;exact hm<|(eW R.nd).mp<|e2.trans e1.symm
  have:=R.at m b o h1 h2
  cases o with
  | lst ys=>obtain⟨d,f,q⟩:=this;exact⟨d,by rw[iG nb];exact f,q.ext ex⟩
  | dct _|m_ _|dks _|dcp _=>obtain⟨d,f,q⟩:=this;exact⟨d,by rw[iG nb];exact f,q.ext ex⟩
  | dcf _|dkf _=>obtain⟨g,d,f,q⟩:=this;exact⟨g,d,by rw[iG nb];exact f,q.ext ex⟩
  | ins _ _=>obtain⟨g,j,f⟩:=this;exact⟨g,j,by rw[iG nb];exact f⟩
end
section
variable {X:Cx}{pos:Pos}{a b:aF}
abbrev DZ (x y:A)(S:iH):R A:=match x,y with
 | .ref n,.int k=>opt (pA S n) λkvs=>opt (kQ kvs k) λv=>.ok v S
 | _,_=>.no
def Ef{x:A}{P:A->iH->Prop}{E:Str->iH->Prop}(h:(DZ x y S).post P E):∃n k kvs v,x=.ref n/\y=.int k/\pA S n=some kvs/\kQ kvs k=some v/\P v S:=by
 unfold DZ at h;split at h
 ·obtain⟨kvs,h1,h⟩:=iK h;obtain⟨v,h2,h⟩:=iK h;exact⟨_,_,kvs,v,rfl,rfl,h1,h2,h⟩
 ·exact h.elim
def Qe(J:X.A.units+64<cLine):LV X (r2 X DZ):=λf j pins s σ H x y v u Q I rx ry ⟨ρ,S,a,b,R,va,vb,h⟩ hs=>by
 obtain⟨n,k,kvs,z,m,hb,hn,t,hP⟩:=Ef h;subst m hb
 cases vb
 cases va with
 | @ref p _ hp=>
  obtain⟨ks,e,d⟩:=R.m_ hp<|nv hn;obtain⟨w,hw,B⟩:=(d.look k).2 z t;have g:tZ H p (kV<|Sum.inl k) (m7 ks<|Sum.inl k):=tZ.k e;rw[hw]at g;exact BC () f j pins s σ H _ _ v u Q I rx ry ⟨p,w,rfl,g,hP _ _ _ .refl R B⟩ hs
def Nf(j:X.A.units+64<cLine){ca cb:Ex}(J:AE X a ca)(hb:AE X b cb)(hs:uf b<|>θ):AE X (.Subscript a b pos) (iR DZ ca cb):=PE.imp (E5 (Qe j) J hb hs) λσ H Q h=>p_ h
abbrev qp (o i v:A)(S:iH):R Unit:=match o,i with
 | .ref n,.int k=>opt (pA S n) λkvs=>gd (kvs.length<sizeLine) (.ok Unit.unit<|S.set n<|.m_<|zV kvs k v)
 | _,_=>.no
end
end Am
namespace L2
open PySem PySem.Spec PyProof.Rows
section
variable {P:ah}{w:af}{A:aC}{E:aa->aE->Prop}{s:aE}{it d:aq}{i ep:Nat}{es:Array DictEntry}{o:Obj}
def MK{Q:bi->aE->Prop}(hi:s.heap.IsKeyIter it d i es.size ep)(J:s.heap.get? d=some o)(hd:o.data=.dict es ep)(lt:i<es.size)
  (q:∀h',h'.IsKeyIter it d (i+1) es.size ep->Heap.SameBut it s.heap h'->Q (some es[i].key) { s with heap:=h' }):wpAny (model P w) A (pyNext<|.ref it) Q E s:=by
 have ty:=hi.typeIs;obtain⟨B,g,k,f⟩:=id hi;have own:Builtin.Dict_items.ownsTuple "dict_keyiterator" = false:=by decide
 have z:¬((Value.ref d == Value.none)=true):=bg;have t:¬((i:Int)<0):=by omega
 unfold pyNext;refine aJ<|wpAny_attempt<|dZ (name:=Str.ofString "__next__") ty cz<|d7 cz ty fD ?_<|e_ _;refine aJ (aP<|aJ<|aJ ?_)
 first
  | refine aJ (cZ ty<|aP<|aJ<|gM g f ?_)
  | refine aJ<|dU ty<|aP<|aJ<|gM g f ?_
 dsimp[own,c_,dw];show wpAny (model P w) _ (if (Value.ref d == Value.none)=true then _ else _) _ _ s;rw[aU z];refine aJ<|aP<|aJ<|dP J hd ?_;rw[aU<|show ¬_ by simp];refine aJ<|aP<|aJ<|wpAny_dictEpoch J hd ?_;rw[aU<|show ¬_ by simp];refine aP ?_;dsimp[t,c_,gQ,Array.getElem?_eq_getElem lt];refine aJ ?_
 first
  | refine aJ (cZ ty<|aP<|aJ<|f7 ty ?_)
  | refine aJ<|dU ty<|aP<|aJ<|f7 ty ?_
 show wpAny (model P w) _ (setField (.ref it) 1 (rawInt<|(i:Int)+1) >>= _) _ _ s;refine aJ (wpAny_setField g f (show _ by simp) ?_);have j:(s.heap.update it<|Obj.mapFields λfs=>fs.setIfInBounds 1<|rawInt<|(i:Int)+1).IsKeyIter it d (i+1) es.size ep:=
  ⟨_,fY _ g<|Obj.isFreed_of_fields<|Obj.data_mapFields f _,(Obj.cls_mapFields ..).trans k,by
   rw[Obj.data_mapFields f];simp[rawInt]⟩
 have m:Shared.TypeIs { s with heap:=s.heap.update it<|Obj.mapFields λfs=>fs.setIfInBounds 1<|rawInt<|(i:Int)+1} (.ref it) "dict_keyiterator" := Heap.IsKeyIter.typeIs (s:={ s with heap:=_ }) j;refine aJ (cP<|aJ<|f7 m ?_)
 skip
 exact aP<|aP ⟨_,rfl,aP<|q _ j<|gC ..⟩
def JV{Q:bi->aE->Prop}(hh:A.handled=none)(hi:s.heap.IsKeyIter it d i es.size ep)(J:s.heap.get? d=some o)(hd:o.data=.dict es ep)(L:es.size<=i)
  (q:∀h',Heap.ExtBut it s.heap h'->Q none { s with heap:=h' }):wpAny (model P w) A (pyNext<|.ref it) Q E s:=by
 have ty:=hi.typeIs;obtain⟨z,g,j,f⟩:=id hi;have own:Builtin.Dict_items.ownsTuple "dict_keyiterator" = false:=by decide
 have t:¬((Value.ref d == Value.none)=true):=bg;have k:¬((i:Int)<0):=by omega
 unfold pyNext;refine aJ<|wpAny_attempt<|dZ (name:=Str.ofString "__next__") ty cz<|d7 cz ty fD ?_<|e_ _;refine aJ (aP<|aJ<|aJ ?_)
 first
  | refine aJ (cZ ty<|aP<|aJ<|gM g f ?_)
  | refine aJ<|dU ty<|aP<|aJ<|gM g f ?_
 dsimp[own,c_,dw];show wpAny (model P w) _ (if (Value.ref d == Value.none)=true then _ else _) _ _ s;rw[aU t];refine aJ<|aP<|aJ<|dP J hd ?_;rw[aU<|show ¬_ by simp];refine aJ<|aP<|aJ<|wpAny_dictEpoch J hd ?_;rw[aU<|show ¬_ by simp];refine aP ?_;dsimp[k,c_,gQ,Array.getElem?_eq_none L];refine aJ ?_
 first
  | refine aJ (cZ ty<|aP ?_)
  | refine aJ<|dU ty<|aP ?_
 show wpAny (model P w) _ (setField (.ref it) 0 .none >>= _) _ _ s;refine aJ (wpAny_setField g f (show _ by simp) ?_)
 skip
 refine aJ ?_;dsimp[newExc,newTuple];refine aJ (bU (aJ (m:=firstArgMember _ _)<|wpAny_of_eq (a:=Value.none) (by first|rfl|(dsimp[firstArgMember];rfl))<|bU ?_<|by size_fits)<|by size_fits);dsimp[raiseNew];have hn:A.in1.handled=none:=hh;refine aJ<|wpAny_handled<|?_;rw[hn];refine aJ<|aP<|wpAny_throw<|?_;refine aJ<|wpAny_isInstance (b:=true) (T := "StopIteration") ⟨_,bJ _ rfl,rfl⟩ isSubtype_stop<|aP<|q _<|((gC ..).extBut.push _).push _
def Ad{Q:aa->aE->Prop}(ty:s.TypeIs (.ref d) "dict")(hs:(d == sysModules)=false)(j:s.heap.get? d=some o)(hd:o.data=.dict es ep)
  (q:Q (.ref s.heap.objs.size) { s with heap:=s.heap.push { cls:=.type "dict_keyiterator",data:=.fields #[.ref d,.int 0 0,.int es.size 0,.int ep 0]}}):wpAny (model P w) A (pyIter<|.ref d) Q E s:=by
 refine wpAny_pyIter_slot ty PySem.F.slot_dict_iter<|d7 PySem.F.slot_dict_iter ty PySem.F.entry_dict_iter ?_<|PySem.F.args_dict_iter_1 _;delta Builtin.«dict.__iter__»;refine aJ ?_;delta Builtin.Dict.dictSlotNone;refine aJ (wpAny_notOrdered_dict ty ?_)
 skip
 refine aP ?_;show wpAny (model P w) _ (Builtin.Dict.showsAll d >>= _) _ _ s;delta Builtin.Dict.showsAll;have f:¬((d == sysModules)=true):=by rw[hs];exact bg
 rw[aU f];refine aJ<|aP<|aJ<|dP j hd<|aJ<|wpAny_dictEpoch j hd ?_;refine aJ<|bU<|aP ⟨_,rfl, "dict_keyiterator",_,⟨_,bJ _ rfl,rfl⟩,cz.lookup,?_⟩;simpa[rawInt]using q
end
section
variable {X:Cx}
def MM{H:Hp}{s:aE}{kvs:List<|List Key×V}(I:Inv X pins σ H s)(ed:H d=some (.dT kvs)) :
  ∃(ob:Obj) (es:Array DictEntry) (ep:Nat) (rs:bd),s.heap.get? d=some ob/\ob.cls=.type "dict" /\ ob.data=.dict es ep/\(d == sysModules)=false/\kvs.length<=sizeLine/\rs.length=kvs.length/\es.size=kvs.length /\
   (∀i:Nat,(es[i]?).map (λe:DictEntry=>e.key)=(rs[i]?).map Value.ref)/\∀(i:Nat) r p,rs[i]?=some r->kvs[i]?=some p->H r=some (.tup<|p.1.map kV):=by
 obtain⟨z,hd,xs,g,dd⟩:=vR I.hok ed;obtain⟨ob,es,ep,g1,g2,t,j,F,C⟩:=id dd;obtain⟨k,m⟩:=kt_at g;have f:es.size=xs.length:=by have:=cA List.length j;simpa using this
 refine⟨ob,es,ep,xs.map λy=>y.2.1,g1,g2.1,t,hd,z,by rw[aN,k],by rw[f,k],λi=>?_,λi r p e1 e2=>?_⟩
 ·rw[<- fZ,j,aY,aY,map_map,map_map]
  cases xs[i]?<;>rfl
 ·obtain⟨y,h1,h2,B,G⟩:=m i p e2;rw[aY,h1]at e1
  cases e1
  exact B
abbrev RM (d:aq)(o:Obj)(u:HO)(j:bd):It:=
 ⟨λi H=>(∃a,j[i]?=some a)/\H d=some (.frz o u),λi H x H'=>H'=H/\∀a,j[i]?=some a->x=.ref a,λi H=>i=j.length/\H d=some (.frz o u)⟩
def Du{P:ah}{w:af}{K:aA}(d it:aq){o:Obj}{es:Array DictEntry}{J:bd}(hd:o.data=.dict es ep)(L:es.size=J.length)
  (M:∀i:Nat,(es[i]?).map (λe:DictEntry=>e.key)=(J[i]?).map Value.ref):Turn P w K tg (RM d o u J) [it] it (λi h=>h.IsKeyIter it d i es.size ep) where
 mem:=aM ..
 obj:=λi h st b hb=>by
  have:b=it:=by simpa using hb
  subst this;obtain⟨ob,h1,h2,B⟩:=st;exact⟨ob,h1,λv z=>by rw[B]at z;cases z⟩
 keep:=λi h h' st k=>st.at λx e=>k it (aM ..) x e
 item:=by
  room;subst hP hw hK;obtain⟨⟨a,g⟩,m⟩:=hg;have j:s.heap.get? d=some o:=(show jx _ _ H s.heap d (.frz o u)from I.hok d _ m).1;have lt:i<es.size:=by rw[L];exact(aL.mp g).1
  have ek:es[i].key=.ref a:=by
   have:=M i;rw[Array.getElem?_eq_getElem lt,g]at this;exact aW this
  obtain⟨f0,f1,f2,f3,f4,f5⟩:=hf it<|aM ..;refine MK st j hd lt λh' f t=>?_;have I1:Inv X pins σ H { s with heap:=h' }:=I.turned (t':=s.toks) (λb x hb e=>t.extBut b x hb e) f0 f1 f3 f4 f5;obtain⟨C,e,c,dd⟩:=id f;rw[ek];exact⟨_,rfl,wD (s:={ s with heap:=h' }) e c dd ⋯ ⟨.ref a,H,I1,rfl,⟨rfl,λb hb=>by rw[g]at hb;cases hb;rfl⟩,f,λb hb=>(hf b hb).1⟩⟩
 done:=by
  room;subst hP hw hK;obtain⟨hi,m⟩:=hg;have j:s.heap.get? d=some o:=(show jx _ _ H s.heap d (.frz o u)from I.hok d _ m).1;obtain⟨f0,f1,f2,f3,f4,f5⟩:=hf it<|aM ..;exact JV (I.ok.hd hc) st j hd () λh' hx=>⟨rfl,I.turned (t':=s.toks) (λb x hb e=>hx b x hb e) f0 f1 f3 f4 f5⟩
 self:=λ_ _ _ _ _ st q=>wpAny_pyIter_keyiter st q
abbrev OZ (to:TE):TI:=λσ H R=>to σ H λx H1=>∃d kvs,x=.ref d/\H1 d=some (.dT kvs)/\∀(o:Obj) (f:bd),f.length=kvs.length->(∀(i:Nat) r p,f[i]?=some r->kvs[i]?=some p->H1 r=some (.tup<|p.1.map kV))->R (RM d o (.dT kvs) f) (upd H1 d<|.frz o<|.dT kvs)
def JS{to:TE}(Z:PE X e to):PI X tg e (OZ to):=by
 intro pins s σ H R I h;refine jz (Z pins s σ H _ I h) λv g h9=>?_;obtain⟨x,H1,I1,r1,d,kvs,ex,ed,N⟩:=h9;subst ex
 cases r1
 obtain⟨z,hd,xs,m,dd⟩:=vR I1.hok ed;obtain⟨f,t,B,k1,k2,W,L,_,U⟩:=id dd;obtain⟨ob,es,ep,F,g1,g2,G,M,Y,C,P,J,V⟩:=MM I1 ed;have K:f=ob:=by rw[g1]at k1;exact(aW k1).symm
 subst K;refine Ad ⟨_,g1,g2⟩ M g1 G ?_;have O:Inv X pins σ H1 { g with heap:=g.heap.push { cls:=.type "dict_keyiterator",data:=.fields #[.ref d,.int 0 0,.int es.size 0,.int ep 0]}}:=
  I1.kept (t':=g.toks) λb o j=>aQ _ j
 have k:∀b ys,H1 b=some (.tup ys)->upd H1 d (.frz f<|.dT kvs) b=some (.tup ys):=λb ys j=>by
  rw[iG<|Cv j ed λz=>nomatch z];exact j
 have I3:Inv X pins σ (upd H1 d<|.frz f<|.dT kvs) _:=qc (t':=g.toks) (ob:=.frz f<|.dT kvs) O (by rw[ed];exact True.intro) ⟨rfl,λ_ _=>rfl⟩ ⟨f,aQ _ g1⟩ ⟨aQ _ g1,z,hd,xs,m.keeps k,f,t,B,aQ _ g1,k2,W,L,U⟩;refine⟨g.heap.objs.size,[g.heap.objs.size],_,RM d f (.dT kvs) F,_,rfl,I3,Du d _ G (by rw[P,C]) J,⟨_,bJ _ rfl,rfl,rfl⟩,λb hb=>?_,N f F C V⟩;have j:b=g.heap.objs.size:=by simpa using hb
 subst j;refine I1.vq (aO _) ?_;rw[iG<|cj<|bB<|aZ g1];exact I1.hok.fresh<|aO _
end
end L2
namespace Am
open PySem PySem.Spec PyProof.Rows L2
section
@[irreducible] noncomputable def big:Nat:=2 ^ 4096
end
def K_:bootBuiltins "dict" = some (.type "dict"):=by decide +kernel
abbrev kA (p:Int×Int):A:=.ktu [.int p.1,.int p.2]
end Am
namespace L2
open PySem PySem.Spec PyProof.Rows
section
variable {prog:ah}{w:af}{A:aC}{R:Result->aE->Prop}{s:aE}
def qg{iter:aF}{rest:List Comprehension}{env:Env}
  (h0:codeAny (model prog w) A (.compLoop (.DictComp ek ev (⟨tg,iter,ifs,0⟩::rest) scope pos) 0 it acc env) R s)
  (h:wpAny (model prog w) A (pyIter it) (λit' s'=>codeAny (model prog w) A (.compLoop (.DictComp ek ev (⟨tg,iter,ifs,0⟩::rest) scope pos) 0 it' acc env) R s')
   (notedBy (model prog w) A env λx s'=>R (.error x) s') s) :
  codeAny (model prog w) A (.compStart (.DictComp ek ev (⟨tg,iter,ifs,0⟩::rest) scope pos) 0 it acc env) R s:=by
 refine codeAny_of_tree ?_;show wpAny _ _ ((compStart (.DictComp ek ev (⟨tg,iter,ifs,0⟩::rest) scope pos) 0 it acc env).onRaise λx=>do noteFrame x env;standAt theWindowsPlace) _ _ s;refine wpAny_notedAt ?_;unfold compStart;show wpAny _ _ (ask >>= _) _ _ s;refine aJ<|wpAny_askSetting<|wpAny_ite ?_;split
 ·first
   | exact aJ (aP<|aP<|anI rfl h0)
   | exact aP<|anI rfl h0
 ·first
   | exact aJ (gJ<|aJ<|bY<|aJ<|dm h (λit' s' h'=>aP<|anI rfl h') λ_ _ x=>x)
   | (refine aJ<|gJ ?_;show wpAny _ _ (standAt iter.pos >>= _) _ _ s;exact aJ<|bY<|aJ<|dm h (λit' s' h'=>aP<|anI rfl h') λ_ _ x=>x)
end
section
variable {X:Cx}{pins:bt}{σ:St}{H H':Hp}{s:aE}{a:aq}{y v:V}{u r:aa}{A:aC}{E:aa->aE->Prop}
def Ew{Q:Unit->aE->Prop}(Z:A.units+1<cLine)(I:Inv X pins σ H s)(g:uQ H a y v H')(ry:RelV y u)(U:RelV v r)(h:∀s',Inv X pins σ H' s'->Q Unit.unit s') :
  wpAny (model X.prog X.w) A (dictSet a u r) Q E s:=by
 rcases g with⟨kvs,k,e,m,l,t⟩|⟨kvs,k,b,e,m,G,l,t⟩
 ·subst m t;obtain⟨z,hd,M,d,dd⟩:=Lo I.hok e;have B:M.length<=sizeLine:=by rw[<- d.length];exact z
  have C:(putK kvs k v).length<=sizeLine:=by have:=nj kvs k v;lia
  refine wpAny_dictSet_pairs (hsz:=B) (AR ry) dd λh' f hs=>h _ ?_;have J:∃q,h'.get? a=some q:=let⟨q,_,_,j,_⟩:=f;⟨q,j⟩
  exact qc I (by rw[e];exact True.intro) hs J<|Hz C hd (d.put k U) f
 ·subst m t
  cases(show u=Value.ref b from ry)
  obtain⟨z,hd,xs,d,dd⟩:=vR I.hok e;have B:xs.length<=sizeLine:=by rw[<- gk d];exact z
  have C:(putK kvs k v).length<=sizeLine:=by have:=nj kvs k v;lia
  refine wpAny_dictSet_heap (hsz:=B) (show A.units<cLine by lia) (sJ I.hok G) dd λh' f hs=>h _ ?_;obtain⟨q,es,ep,j,h2,N,L,_,K⟩:=f;refine qc I (by rw[e];exact True.intro) hs ⟨q,j⟩ ⟨C,hd,_,(d.put k G U).keeps λc ys F=>?_,q,es,ep,j,h2,N,L,K⟩;rw[iG<|Cv F e λz=>nomatch z];exact F
end
def xo(ek ev t1 i1 t2 i2:aF)(f1 f2:List aF)(scope:Scope)(pos:Pos)(it acc:aa)(env:Env) :
  compTurn (.DictComp ek ev [⟨t1,i1,f1,0⟩,⟨t2,i2,f2,0⟩] scope pos) 0 it acc env=(do
   standAt i1.pos
   match <- pyNext it with
   | none=>pure (.done .next)
   | some v=>
    letOwnedTupleGo t1 it v
    assign t1 env v
    let mut ok:=true
    for c in f1 do
     if ok then ok <- isTrue c env (eval c env)
    if ok then
     let x <- eval i2 env
     standAt i2.pos
     let x <- foldedSetIterable i2 env x
     let _ <- runOwn (.compStart (.DictComp ek ev [⟨t1,i1,f1,0⟩,⟨t2,i2,f2,0⟩] scope pos) 1 (<- holding [x] (pyIter x)) acc env) env
    again (.compLoop (.DictComp ek ev [⟨t1,i1,f1,0⟩,⟨t2,i2,f2,0⟩] scope pos) 0 it acc env)):=by rfl
def wQ(ek ev t1 i1 t2 i2:aF)(f1 f2:List aF)(scope:Scope)(pos:Pos)(it:aa)(d:aq)(env:Env) :
  compTurn (.DictComp ek ev [⟨t1,i1,f1,0⟩,⟨t2,i2,f2,0⟩] scope pos) 1 it (.ref d) env=(do
   standAt i2.pos
   match <- pyNext it with
   | none=>pure (.done .next)
   | some v=>
    letOwnedTupleGo t2 it v
    assign t2 env v
    let mut ok:=true
    for c in f2 do
     if ok then ok <- isTrue c env (eval c env)
    if ok then
     (do
      let kv <- eval ek env
      let vv <- holding [kv] (eval ev env)
      standAt { ek.pos with endLine:=ev.pos.endLine,endCol:=ev.pos.endCol }
      holding [kv,vv] (dictSet d kv vv))
    again (.compLoop (.DictComp ek ev [⟨t1,i1,f1,0⟩,⟨t2,i2,f2,0⟩] scope pos) 1 it (.ref d) env)):=by rfl
section
variable {prog:ah}{w:af}{A:aC}{R:Result->aE->Prop}{s:aE}
def pq{t1:aF}{f1 f2:List aF}{env:Env}
  (h0:codeAny (model prog w) A (.compLoop (.DictComp ek ev [⟨t1,i1,f1,0⟩,⟨t2,i2,f2,0⟩] scope pos) 1 it acc env) R s)
  (h:wpAny (model prog w) A (pyIter it) (λit' s'=>codeAny (model prog w) A (.compLoop (.DictComp ek ev [⟨t1,i1,f1,0⟩,⟨t2,i2,f2,0⟩] scope pos) 1 it' acc env) R s')
   (notedBy (model prog w) A env λx s'=>R (.error x) s') s) :
  codeAny (model prog w) A (.compStart (.DictComp ek ev [⟨t1,i1,f1,0⟩,⟨t2,i2,f2,0⟩] scope pos) 1 it acc env) R s:=by
 refine codeAny_of_tree ?_;show wpAny _ _ ((compStart (.DictComp ek ev [⟨t1,i1,f1,0⟩,⟨t2,i2,f2,0⟩] scope pos) 1 it acc env).onRaise λx=>do noteFrame x env;standAt theWindowsPlace) _ _ s;refine wpAny_notedAt ?_;unfold compStart;show wpAny _ _ (ask >>= _) _ _ s;refine aJ<|wpAny_askSetting<|wpAny_ite ?_;split
 ·first
   | exact aJ (aP<|aP<|anI rfl h0)
   | exact aP<|anI rfl h0
 ·first
   | exact aJ (gJ<|aJ<|bY<|aJ<|dm h (λit' s' h'=>aP<|anI rfl h') λ_ _ x=>x)
   | (refine aJ<|gJ ?_;show wpAny _ _ (standAt i2.pos >>= _) _ _ s;exact aJ<|bY<|aJ<|dm h (λit' s' h'=>aP<|anI rfl h') λ_ _ x=>x)
end
abbrev Cg (g:TG)(tc:TT)(tk tv:TE)(D:aq)(L:L2.St->Hp->Prop)(σ:L2.St)(J:It)(H1:Hp):Prop:=
 ∃V:Nat->Nat->L2.St->Hp->Prop,(∃m,V 0 m σ H1)/\∀i m f H',V i m f H' ->
  (J.stop i H'/\L f H')\/(J.go i H'/\∀x H2,J.yld i H' x H2->g x f H2 λd k=>tc d k λb j=>
   if b=true then tk d j λy H5=>tv d H5 λz H6=>∃H7,uQ H6 D y z H7/\∃m',m'<m/\V (i+1) m' d H7
   else ∃m',m'<m/\V (i+1) m' d j)
def za{Z:Cx}{t1:aF}{f1:List aF}{fp:bd}{tn:Nat->au->Prop}{H:Hp}{s:aE}{g:TG}{tc:TT}{tk tv:TE}{Nn:L2.St->Hp->Prop}
  (hu:Z.A.units+1<cLine) (hc:Z.calm=true) (hxe:Z.xe=λ_ _=>False) (T:Turn Z.prog Z.w Z.K tg J fp it tn) (I:Inv Z pins σ H s) (st:tn 0 s.heap) (hf:∀b∈fp,m9 Z pins H b) (hg:PG Z tg g) (ht:zO Z ifs tc) (hk:PE Z ek tk) (hv:PE Z ev tv) (goal:Cg g tc tk tv D Nn σ J H) :
  codeAny (model Z.prog Z.w) Z.A (.compLoop (.DictComp ek ev [⟨t1,i1,f1,0⟩,⟨tg,i2,ifs,0⟩] scope pos) 1 (.ref it) (.ref D) Z.env) (λr s'=>r=.ok .next/\∃σ' H',Inv Z pins σ' H' s'/\Nn σ' H') s:=by
 obtain⟨V,⟨m0,v0⟩,B⟩:=goal;have stat:∀{H':Hp},(∀b∈fp,H' b=none)->∀b∈fp,m9 Z pins H' b:=λhn b hb=>⟨hn b hb,(hf b hb).2⟩;refine gE rfl (λn s'=>∃i σ' H',Inv Z pins σ' H' s'/\tn i s'.heap/\(∀b∈fp,H' b=none)/\V i n σ' H') (λn P hI=>?_) m0 ⟨0,σ,H,I,st,λb hb=>(hf b hb).1,v0⟩;obtain⟨i,σ5,H5,I5,C,F,w5⟩:=hI;show wpAny _ Z.A ((compTurn (.DictComp ek ev [⟨t1,i1,f1,0⟩,⟨tg,i2,ifs,0⟩] scope pos) 1 (.ref it) (.ref D) Z.env).onRaise λx=>do noteFrame x _;theTreesLotGoes x) _ _ P;refine gS ?_;rw[wQ];refine aJ (bY<|aJ ?_)
 rcases B i n σ5 H5 w5 with⟨G,q⟩|⟨go,step⟩
 ·refine jz (T.done Z rfl rfl rfl hc i pins P σ5 H5 _ I5 (stat F) C G) λr s6 h9=>?_;obtain⟨hr,I6⟩:=h9;subst hr;exact aP ⟨rfl,σ5,H5,I6,q⟩
 ·refine jz (T.item Z rfl rfl rfl hc i pins P σ5 H5 _ I5 (stat F) C go) λr s6 h9=>?_;obtain⟨u,hr,h6⟩:=h9;subst hr;kpc_g;f_are;have k:∀{α:Type} {t:Sem α} {Q Q':α->aE->Prop} {E:aa->aE->Prop} {s:aE},wpAny (model Z.prog Z.w) Z.A t Q Z.xe s->(∀a s,Q a s->Q' a s)->wpAny (model Z.prog Z.w) Z.A t Q' E s:=λh hQ=>by
   rw[hxe]at h;exact rF h hQ
  refine aJ<|k (hg _ s7 σ5 H7 x u _ I7' r7<|step x H7 y7) λ_ s8 ⟨σ8,H8,I8,q8⟩=>?_;refine aJ<|k (ht _ s8 σ8 H8 _ I8 q8) λok s9 ⟨H9,I9,L⟩=>?_;have j:∀{f:aE} {H10:Hp},Inv Z (pins++oQ fp s7.heap) σ8 H10 f->(∃m',m'<n/\V (i+1) m' σ8 H10) ->
    ∃m,m<n/\∃i σ' H',Inv Z pins σ' H' f/\tn i f.heap/\(∀b∈fp,H' b=none)/\V i m σ' H':=λ{f H10} I10 h9=>by
   obtain⟨m',hm,w10⟩:=h9;kj_on;obtain⟨o,e,d⟩:=T.obj _ _ st7 b hb;o_rec
  cases ok with
  | false=>
   rw[aU bg]at L;exact aP ⟨rfl,j I9 L⟩
  | true=>
   rw[aS rfl]at L;refine aJ<|aJ<|k (hk _ s9 σ8 H9 _ I9 L) λy f ⟨v10,H10,I10,O,Y⟩=>?_;refine aJ<|cP<|k (hv _ f σ8 H10 _ I10 Y) λz s11 ⟨v11,H11,M,U,H12,dp,N⟩=>?_;refine aJ<|bY<|cP ?_;exact Ew (X:=Z) hu M dp O U λs12 W=>aP ⟨rfl,j W N⟩
abbrev JT (ob:HO)(cap:List<|bo)(g:TG)(tc:TT)(wi2:TI)(g2:TG)(tc2:TT)(tk tv:TE)(σ:L2.St)(Q:VK)(J:It)(H1:Hp):Prop:=∀D,H1 D=none ->
 ∃W:Nat->Nat->L2.St->Hp->Prop,(∃m,W 0 m (cap.map<|Gz σ)<|upd H1 D ob)/\∀i m f H',W i m f H' ->
  (J.stop i H'/\Q (.ref D) H')\/(J.go i H'/\∀x H2,J.yld i H' x H2->g x f H2 λd k=>tc d k λb j=>
   if b=true then wi2 d j (Cg g2 tc2 tk tv D (λσ5 H5=>∃m',m'<m/\W (i+1) m' σ5 H5) d)
   else ∃m',m'<m/\W (i+1) m' d j)
abbrev NB (ob:HO)(cap:List<|bo)(j:TI)(g:TG)(tc:TT)(wi2:TI)(g2:TG)(tc2:TT)(tk tv:TE):TE:=λσ H Q=>j σ H<|JT ob cap g tc wi2 g2 tc2 tk tv σ Q
def Kw{X:Cx}{use:Option<|aa->Sem Unit}{Q':aa->aE->Prop}{iter:aF}{N:ar}{wi wi2:TI}{g g2:TG}{tc tc2:TT}{tk tv:TE}{ob:HO}(hob:∀{P:ah}{w:af}{H:Hp}(h:au),sysModules<h.objs.size->jx P w H (h.push { cls:=.type "dict",data:=.dict #[]}) h.objs.size ob)(hu:X.A.units+1<cLine)(hc:X.calm=true)(S:CpScope X scope N cap)(hi:PI X tg iter wi)
  (hg:∀C s₀ H₀ ex,PG (iZ X scope N C s₀ H₀ ex) tg g) (ht:∀C s₀ H₀ ex,zO (iZ X scope N C s₀ H₀ ex) ifs tc) (hi2:∀C s₀ H₀ ex,PI (iZ X scope N C s₀ H₀ ex) tg2 iter2 wi2)
  (hg2:∀C s₀ H₀ ex,PG (iZ X scope N C s₀ H₀ ex) tg2 g2) (ht2:∀C s₀ H₀ ex,zO (iZ X scope N C s₀ H₀ ex) ifs2 tc2) (hk:∀C s₀ H₀ ex,PE (iZ X scope N C s₀ H₀ ex) ek tk) (hv:∀C s₀ H₀ ex,PE (iZ X scope N C s₀ H₀ ex) ev tv)
  (hs:(∀x,foldedSetIterable iter X.env x=pure x)<|>ζ) (hs2:∀env x,foldedSetIterable iter2 env x=pure x:=by intro _ _;rfl)  : ∀(pins:bt) (s:aE) (σ:L2.St) (H:Hp) (Q:VK),Inv X pins σ H s->NB ob cap wi g tc wi2 g2 tc2 tk tv σ H Q ->
  (∀(s6:aE) (C D:aq) (H5:Hp) (m:Str->bi),s6.heap.Ns C m->m9 X pins H5 C->(∀h',Heap.SameBut C s6.heap h'->Inv X pins σ H5 { s6 with heap:=h' })->Q (.ref D) H5->∀v,compPost (model X.prog X.w) X.A X.xe use Q' (.ref D) C (.ok v) s6) ->
  wpAny (model X.prog X.w) X.A (comprehension (.DictComp ek ev [⟨tg,iter,ifs,0⟩,⟨tg2,iter2,ifs2,0⟩] scope pos) scope X.env (firstIterPos [⟨tg,iter,ifs,0⟩,⟨tg2,iter2,ifs2,0⟩] pos) newDict (firstAsync [⟨tg,iter,ifs,0⟩,⟨tg2,iter2,ifs2,0⟩]) (firstIter [⟨tg,iter,ifs,0⟩,⟨tg2,iter2,ifs2,0⟩] X.env) use) Q' X.xe s:=by
 intro pins s σ H Q I h hfin;k_ne;refine fC (use:=use) rfl hs (qA hfree) S.kind S.nm<|jz (hi pins s σ H _ I h) λxv s1 h1=>jz h1 λitv f h2=>?_;obtain⟨it,fp,tn,J,H2,rfl,I2,T,st2,f2,h2⟩:=h2;refine bU<|w6 λO j old k=>?_;obtain⟨W,⟨m0,w0⟩,Y⟩:=h2 f.heap.objs.size I2.fresh;dsimp only at j old k ⊢;have I3:Inv X pins σ (upd H2 f.heap.objs.size ob) { f with heap:=f.heap.push { cls:=.type "dict",data:=.dict #[]}}:=I2.laid (a:=f.heap.objs.size) (o:=ob) (h':=f.heap.push { cls:=.type "dict",data:=.dict #[]}) (t':=f.toks) (λ_ _ q=>aQ _ q) (aO _)<|hob f.heap I2.big;have hfp:∀b∈fp,∃o,f.heap.get? b=some o:=λb hb=>by
  obtain⟨o,e,_⟩:=T.obj 0 _ st2 b hb;exact⟨o,e⟩
 have neD:∀b∈fp,b≠f.heap.objs.size:=λb hb=>by
  obtain⟨o,e⟩:=hfp b hb;exact bB<|aZ e
 have f3:∀b∈fp,m9 X pins (upd H2 f.heap.objs.size ob) b:=λb hb=>⟨by rw[iG<|neD b hb];exact(f2 b hb).1,(f2 b hb).2⟩;have hDC:f.heap.objs.size≠(f.heap.push { cls:=.type "dict",data:=.dict #[]}).objs.size:=by rw[d9];exact bB (bE _)
 have I4:=zT (tk:=f.toks+([]:List<|Str×aa).length) (fp:=fp) S I3 f3 (λb hb=>by
  obtain⟨o,e⟩:=hfp b hb;exact⟨o,aQ _ e⟩) j k old
 have V:tn 0 O:=T.keep _ _ _ st2 λb hb o e=>old b o<|aQ _ e;have stat:∀{H':Hp},(∀b∈fp,H' b=none)->∀b∈fp,m9 (iZ X scope N (f.heap.push { cls:=.type "dict",data:=.dict #[]}).objs.size { f with heap:=f.heap.push { cls:=.type "dict",data:=.dict #[]}} (upd H2 f.heap.objs.size ob) fp) [] H' b:=λhn b hb=>by
  have ok:=I4.ok;kpf_c
 have M:∀s4:aE,s4={ f with heap:=O,toks:=f.toks+([]:List<|Str×aa).length } ->
   codeAny (model X.prog X.w) X.A (.compLoop (.DictComp ek ev [⟨tg,iter,ifs,0⟩,⟨tg2,iter2,ifs2,0⟩] scope pos) 0 (.ref it) (.ref f.heap.objs.size)<|compEnvC scope (cellsFrom ((f.heap.push { cls:=.type "dict",data:=.dict #[]}).objs.size+1) scope.names<|o_ X.env scope.names []) (f.heap.push { cls:=.type "dict",data:=.dict #[]}).objs.size X.env)
    (compPost (model X.prog X.w) X.A X.xe use Q' (.ref f.heap.objs.size) (f.heap.push { cls:=.type "dict",data:=.dict #[]}).objs.size) s4:=by
  rintro s4 rfl;refine gE rfl (λn s'=>∃i B H',Inv (iZ X scope N (f.heap.push { cls:=.type "dict",data:=.dict #[]}).objs.size { f with heap:=f.heap.push { cls:=.type "dict",data:=.dict #[]}} (upd H2 f.heap.objs.size ob) fp) [] B H' s'/\tn i s'.heap/\(∀b∈fp,H' b=none)/\W i n B H') (λn s5 hI=>?_) m0 ⟨0,_,_,I4,V,λb hb=>(f3 b hb).1,w0⟩;obtain⟨i,σ5,H5,I5,st5,fr5,w5⟩:=hI;show wpAny _ X.A ((compTurn (.DictComp ek ev [⟨tg,iter,ifs,0⟩,⟨tg2,iter2,ifs2,0⟩] scope pos) 0 (.ref it) (.ref f.heap.objs.size)<|compEnvC scope (cellsFrom ((f.heap.push { cls:=.type "dict",data:=.dict #[]}).objs.size+1) scope.names<|o_ X.env scope.names []) (f.heap.push { cls:=.type "dict",data:=.dict #[]}).objs.size X.env).onRaise λx=>do noteFrame x _;theTreesLotGoes x) _ _ s5;refine gS ?_;rw[xo];refine aJ (bY<|aJ ?_)
  rcases Y i n σ5 H5 w5 with⟨stop,q⟩|⟨go,step⟩
  ·refine jz (T.done (iZ X scope N (f.heap.push { cls:=.type "dict",data:=.dict #[]}).objs.size { f with heap:=f.heap.push { cls:=.type "dict",data:=.dict #[]}} (upd H2 f.heap.objs.size ob) fp) rfl rfl rfl hc i [] s5 σ5 H5 _ I5 (stat fr5) st5 stop) λr s6 h9=>?_;obtain⟨hr,I6⟩:=h9;subst hr;obtain⟨m6,hn6,_⟩:=I6.loc;refine aP<|hfin s6 _ _ H5 m6 hn6 (I3.vq (aO _) I6.free) (λh' sb=>?_) q _;have u6:=I6.base;have nC:∀b o,(f.heap.push { cls:=.type "dict",data:=.dict #[]}).get? b=some o->b≠(f.heap.push { cls:=.type "dict",data:=.dict #[]}).objs.size:=λb o e=>bB<|aZ e;kd_p
   ·exact sb.extBut b o (nC b o e) (u6.keep b o e n hb hx)
   ·obtain⟨sl,z⟩:=u6.slot b o e n hb hx;exact⟨sl,sb.extBut b _ (nC b o e) z⟩
   ·exact u6.free b o e n hx
   ·obtain⟨o',z⟩:=u6.there b o e hx;exact⟨o',sb.extBut b _ (nC b o e) z⟩
   ·intro b o e;have hb:∀c v,H5 c=some v->c≠(f.heap.push { cls:=.type "dict",data:=.dict #[]}).objs.size:=λc v e z=>by
     rw[z]at e;have:=I6.free;rw[show H5 (f.heap.push { cls:=.type "dict",data:=.dict #[]}).objs.size=none from this]at e
     cases e
    refine(I6.hok b o e).stay (λc v hc q=>sb.extBut c v ?_ q) (λ_ q=>q) λ_ _ q=>q
    rcases hc with z|z
    ·rw[z];exact hb b o e
    ·exact hb c _ z
   ·intro b hb;obtain⟨_,z1,_,z3,z4,z5⟩:=f3 b hb;exact⟨z3,z1,z4,z5⟩
  ·refine jz (T.item (iZ X scope N (f.heap.push { cls:=.type "dict",data:=.dict #[]}).objs.size { f with heap:=f.heap.push { cls:=.type "dict",data:=.dict #[]}} (upd H2 f.heap.objs.size ob) fp) rfl rfl rfl hc i [] s5 σ5 H5 _ I5 (stat fr5) st5 go) λr s6 h9=>?_;obtain⟨u,hr,h6⟩:=h9;subst hr;kpc_g;f_are;kln_w;refine aJ<|rF (ht _ _ _ fp _ s8 σ8 H8 _ I8 q8) λok s9 ⟨H9,I9,q9⟩=>?_;have K:∀{G:aE} {H10:Hp} {t:L2.St},Inv (iZ X scope N (f.heap.push { cls:=.type "dict",data:=.dict #[]}).objs.size { f with heap:=f.heap.push { cls:=.type "dict",data:=.dict #[]}} (upd H2 f.heap.objs.size ob) fp) ([]++oQ fp s7.heap) t H10 G->(∃m',m'<n/\W (i+1) m' t H10) ->
     ∃m,m<n/\∃i B H',Inv (iZ X scope N (f.heap.push { cls:=.type "dict",data:=.dict #[]}).objs.size { f with heap:=f.heap.push { cls:=.type "dict",data:=.dict #[]}} (upd H2 f.heap.objs.size ob) fp) [] B H' G/\tn i G.heap/\(∀b∈fp,H' b=none)/\W i m B H':=λ{G H10 t} I10 h9=>by
    obtain⟨m',hm,w10⟩:=h9;refine⟨m',hm,i+1,t,H10,I10.ku,T.keep _ _ _ st7 λb hb o e=>(I10.pin (b,o)<|aT _<|aT _<|jk hb e).1,λb hb=>?_,w10⟩;obtain⟨o,e,d⟩:=T.obj _ _ st7 b hb;o_rec
   cases ok with
   | false=>
    rw[aU bg]at q9;exact aP ⟨rfl,K I9 q9⟩
   | true=>
    rw[aS rfl]at q9;refine aJ<|rF (hi2 _ _ _ fp _ s9 σ8 H9 _ I9 q9) λxv G h10=>aJ<|bY ?_;rw[hs2];refine aJ<|aP<|aJ<|cP<|rF h10 λitv s11 h11=>?_;obtain⟨it2,fp2,tn2,J2,H11,rfl,U,T2,L,f11,goal⟩:=h11;have hcz:=hc;have F:=(λ(Z:Cx) (h1:Z.calm=true) (h2:Z.xe=λ_ _=>False) (h0:Z.A.units+1<cLine) T2 U=>za (Z:=Z) (t1:=tg) (i1:=iter) (f1:=ifs) (i2:=iter2) (scope:=scope) (pos:=pos) h0 h1 h2 T2 U) _ (show(iZ X scope N _ _ _ fp).calm=true from hcz) rfl (show(iZ X scope N _ _ _ fp).A.units+1<cLine from hu) T2 U L f11 (hg2 _ _ _ fp) (ht2 _ _ _ fp) (hk _ _ _ fp) (hv _ _ _ fp) goal;refine aJ<|wpAny_runOwn<|gD (pq F<|T2.self _ 0 _ _ _ L F) λr s12 hr12=>?_;obtain⟨hr,σ12,H12,I12,n12⟩:=hr12;subst hr;exact aP ⟨rfl,K I12 n12⟩
 exact qg (M _ rfl)<|T.self _ 0 _ _ _ V<|M _ rfl
end L2
namespace Am
open PySem PySem.Spec PyProof.Rows L2
def Qk{α:Type}{c:Prop}[Decidable c]{r:R α}{a:α}(h:gd c r=.ok a S):c/\r=.ok a S:=by
 unfold gd at h;by_cases hc:c
 ·rw[aS hc]at h;exact⟨hc,h⟩
 ·rw[aU hc]at h;cases h
def I0{α:Type}{l m:List α}{n:Nat}{p:α}(h:l <+: m)(e:l[n]?=some p):m[n]?=some p:=by
 obtain⟨t,rfl⟩:=h;rw[aR (aL.mp e).1,e]
abbrev t9 (st:A->A->A->iH->R Unit)(s:Src)(g:Tg)(t:Te)(ek ev:Ex)(n:Nat):Nat->Nat->ae->iH->R (ae)
 | 0,_=>λτ S=>if s.fin S then .ok τ S else .no
 | k+1,i=>λτ S=>opt (s.get i S) λx=>(g x τ S).jh λτ1 S1=>(t τ1 S1).jh λb S2=>match b with
  | true=>(ek τ1 S2).jh λy S3=>(ev τ1 S3).jh λz S4=>(st (.ref n) y z S4).jh λ_ S5=>t9 st s g t ek ev n k (i+1) τ1 S5
  | false=>t9 st s g t ek ev n k (i+1) τ1 S2
def DM{st:A->A->A->iH->R Unit}{s:Src}{g:Tg}{t:Te}{ek ev:Ex}{n k:Nat}{T:Prop}(h:t9 st s g t ek ev n (k+1) i τ S=.ok τ' S')
  (q:∀x τ1 S1 b S2,s.get i S=some x->g x τ S=.ok τ1 S1->t τ1 S1=.ok b S2->(b=true->∃y S3 z S4 u S5,ek τ1 S2=.ok y S3/\ev τ1 S3=.ok z S4/\st (.ref n) y z S4=.ok u S5/\t9 st s g t ek ev n k (i+1) τ1 S5=.ok τ' S')->(b=false->t9 st s g t ek ev n k (i+1) τ1 S2=.ok τ' S')->T):T:=by
 obtain⟨x,hx,h⟩:=sy h;obtain⟨τ1,S1,h1,h⟩:=ja h;obtain⟨b,S2,h2,h⟩:=ja h;mg_lt
 ·subst hb;obtain⟨y,S3,f,h⟩:=ja h;obtain⟨z,S4,j,h⟩:=ja h;obtain⟨u,S5,d,h⟩:=ja h;exact⟨y,S3,z,S4,u,S5,f,j,d,h⟩
 ·subst hb;exact h
structure DKind (K:aA)(o:O)(ob:HO)(st:A->A->A->iH->R Unit):Prop where
 obj:∀{P:ah} {w:af} {H:Hp} (h:au),sysModules<h.objs.size->jx P w H (h.push { cls:=.type "dict",data:=.dict #[]}) h.objs.size ob
 new:∀{ρ:bd} {H:Hp} {S:iH} {p:aq},Rel K ρ H S->H p=none->Ext ρ (ρ++[p]) H (upd H p ob)/\Rel K (ρ++[p]) (upd H p ob) (S++[o])/\(ρ++[p])[S.length]?=some p
 put:∀{ρ:bd} {H:Hp} {S S':iH} {n:Nat} {p:aq} {y z:A} {vy vz:V} {u:Unit},Rel K ρ H S->ρ[n]?=some p->AV K ρ H y vy->AV K ρ H z vz->st (.ref n) y z S=.ok u S'->∃H',uQ H p vy vz H'/\Ext ρ ρ H H'/\Rel K ρ H' S'
def Qw{K:aA}:DKind K (.m_ []) (.dK []) qp:=by
 refine⟨λh hb=>IV h hb,λR hp=>R.Su (xs:=[]) (vs:=[]) hp trivial,λ{ρ H S S' n p y z vy vz u} R hp ay az h=>?_⟩;unfold qp at h
 cases y with
 | int k=>
  obtain⟨kvs,hn,h⟩:=sy h;obtain⟨f,h⟩:=Qk h
  cases h
  cases ay
  obtain⟨ks,e,d⟩:=R.m_ hp<|nv hn;obtain⟨ex,g⟩:=R.zV hp (nv hn)<|d.put az k;exact⟨_,uQ.k (k:=Sum.inl k) e<|by rw[<- d.length];exact f,ex,g⟩
 | _=>cases h
end Am
namespace L2
open PySem PySem.Spec PyProof.Rows
def D3{X:Cx}{i:Nat}{U:Pos}{iter:aF}{N:ar}{wi wi2:TI}{g g2:TG}{tc tc2:TT}{tk tv:TE}{ob:HO}(Z:∀{P:ah}{w:af}{H:Hp}(h:au),sysModules<h.objs.size->jx P w H (h.push { cls:=.type "dict",data:=.dict #[]}) h.objs.size ob)(hu:X.A.units+1<cLine)
  (hN:X.N.Nodup) (hi':X.N[i]?=some y) (hx:Loc X.env.scope y) (hc:X.calm=true) (S:CpScope X scope N cap) (hi:PI X tg iter wi)
  (hg:∀C s₀ H₀ ex,PG (iZ X scope N C s₀ H₀ ex) tg g) (ht:∀C s₀ H₀ ex,zO (iZ X scope N C s₀ H₀ ex) ifs tc) (hi2:∀C s₀ H₀ ex,PI (iZ X scope N C s₀ H₀ ex) tg2 iter2 wi2)
  (hg2:∀C s₀ H₀ ex,PG (iZ X scope N C s₀ H₀ ex) tg2 g2) (ht2:∀C s₀ H₀ ex,zO (iZ X scope N C s₀ H₀ ex) ifs2 tc2) (hk:∀C s₀ H₀ ex,PE (iZ X scope N C s₀ H₀ ex) ek tk) (hv:∀C s₀ H₀ ex,PE (iZ X scope N C s₀ H₀ ex) ev tv)
  (hsw:swapsWith (.DictComp ek ev [⟨tg,iter,ifs,0⟩,⟨tg2,iter2,ifs2,0⟩] scope pos) (some<|.Name y py) U.line X.env=pure true)
  (hf:X.fn y=true\/X.env.scope.names.lookup y=some .local) (hs:(∀x,foldedSetIterable iter X.env x=pure x)<|>ζ) (hs2:∀env x,foldedSetIterable iter2 env x=pure x:=by intro _ _;rfl) :
  PS X (.Assign [.Name y py] (.DictComp ek ev [⟨tg,iter,ifs,0⟩,⟨tg2,iter2,ifs2,0⟩] scope pos) U) (F_ (NB ob cap wi g tc wi2 g2 tc2 tk tv)<|CF i):=by
 ksr_p;rw[exec_Assign_Name_used _ _ _ _ hsw];refine aJ<|bY<|aJ ?_;show wpAny _ X.A (do let _ <- comprehension (.DictComp ek ev [⟨tg,iter,ifs,0⟩,⟨tg2,iter2,ifs2,0⟩] scope pos) scope X.env (firstIterPos [⟨tg,iter,ifs,0⟩,⟨tg2,iter2,ifs2,0⟩] pos) newDict (firstAsync [⟨tg,iter,ifs,0⟩,⟨tg2,iter2,ifs2,0⟩]) (firstIter [⟨tg,iter,ifs,0⟩,⟨tg2,iter2,ifs2,0⟩] X.env) (some<|assign (.Name y py) X.env)) _ _ s;refine aJ<|dm (Kw (Q':=λ_ s'=>SP X pins D .next s') Z hu hc S hi hg ht hi2 hg2 ht2 hk hv hs hs2 pins s σ H _ I h ?_) (λ_ s' M=>aP<|aP M) λ_ _ e=>e;intro t C F H5 m hn j inv q v;have O:=inv t.heap<|Heap.SameBut.refl _ _;obtain⟨J,f⟩:∃o,t.heap.get? C=some o/\∀v,o.data≠.cell v:=by
  obtain⟨o,es,ep,e,d,_⟩:=hn;exact⟨o,e,λv z=>by rw[d]at z;cases z⟩
 have L:=O.pinned (fp:=[C]) (λb hb=>by rw[bf]at hb;rw[hb];exact j) (λb hb=>by rw[bf]at hb;rw[hb];exact⟨J,f⟩);show wpAny _ X.A (assign (.Name y py) X.env<|.ref F) _ _ t;refine jz (xJ hN hi' hx hf _ t σ H5 (.ref F) (.ref F) _ L rfl q) λ_ s7 h9=>?_;obtain⟨B,H7,I7,K⟩:=h9;have hp:=I7.pin (C,J)<|aT _<|aT _<|jk (bf.mpr rfl) f.1;refine⟨m,hn.at' λo e=>by rw[f.1]at e;cases e;exact hp.1,λh' k=>?_⟩;have G:∀c v,H7 c=some v->c≠C:=λc v e z=>by rw[z,hp.2.1]at e;cases e
 refine⟨B,H7,?_,K⟩;refine I7.ku.yZ (ch:=[C]) rfl ⟨λb o e n hb hx=>?_,λb o e n hb hx=>?_,λb o e n hx=>n,λb o e hx=>?_,λ_ _ e=>e,λ_ _ _ e=>e,λ_ _ e=>⟨#[],by rw[Array.append_empty];exact e⟩⟩ ?_ I7.bare ?_
 ·exact k.extBut b o (by simpa using hx) e
 ·exact⟨o.slots,k.extBut b o (by simpa using hx) e⟩
 ·exact⟨o,k.extBut b o (by simpa using hx) e⟩
 ·intro b o e;refine(I7.hok b o e).stay (λc v hc q=>k.extBut c v ?_ q) (λ_ q=>q) λ_ _ q=>q
  rcases hc with z|z
  ·rw[z];exact G b o e
  ·exact G c _ z
 ·intro b hb;rw[bf]at hb;rw[hb];exact⟨j.2.2.2.1,j.2.1,j.2.2.2.2.1,j.2.2.2.2.2⟩
end L2
namespace Am
open PySem PySem.Spec PyProof.Rows L2
abbrev oU (st:A->A->A->iH->R Unit)(s:Src)(g:Tg)(t:Te)(src2:Ic)(g2:Tg)(t2:Te)(ek ev:Ex)(n:Nat):Nat->Nat->ae->iH->R (ae)
 | 0,_=>λτ S=>if s.fin S then .ok τ S else .no
 | k+1,i=>λτ S=>opt (s.get i S) λx=>(g x τ S).jh λτ1 S1=>(t τ1 S1).jh λb S2=>match b with
  | true=>(src2 τ1 S2).jh λf S3=>(t9 st f g2 t2 ek ev n f.k 0 τ1 S3).jh λd S4=>oU st s g t src2 g2 t2 ek ev n k (i+1) d S4
  | false=>oU st s g t src2 g2 t2 ek ev n k (i+1) τ1 S2
abbrev IE (o:O)(st:A->A->A->iH->R Unit)(cap:List<|bo)(src:Ic)(g:Tg)(t:Te)(src2:Ic)(g2:Tg)(t2:Te)(ek ev:Ex):Ex:=λτ S=>(src τ S).bind λs S1=>(oU st s g t src2 g2 t2 ek ev S1.length s.k 0 (lH cap τ)<|S1++[o]).jh λ_ S2=>.ok (.ref S1.length) S2
def As{st:A->A->A->iH->R Unit}{s:Src}{g:Tg}{t:Te}{src2:Ic}{g2:Tg}{t2:Te}{ek ev:Ex}{n k:Nat}{T:Prop}(h:oU st s g t src2 g2 t2 ek ev n (k+1) i τ S=.ok τ' S')
  (q:∀x τ1 S1 b S2,s.get i S=some x->g x τ S=.ok τ1 S1->t τ1 S1=.ok b S2->(b=true->∃s2 S3 τ2 S4,src2 τ1 S2=.ok s2 S3/\t9 st s2 g2 t2 ek ev n s2.k 0 τ1 S3=.ok τ2 S4/\oU st s g t src2 g2 t2 ek ev n k (i+1) τ2 S4=.ok τ' S')->(b=false->oU st s g t src2 g2 t2 ek ev n k (i+1) τ1 S2=.ok τ' S')->T):T:=by
 obtain⟨x,hx,h⟩:=sy h;obtain⟨τ1,S1,h1,h⟩:=ja h;obtain⟨b,S2,h2,h⟩:=ja h;mg_lt
 ·subst hb;obtain⟨s2,S3,d,h⟩:=ja h;obtain⟨τ2,S4,f,h⟩:=ja h;exact⟨s2,S3,τ2,S4,d,f,h⟩
 ·subst hb;exact h
section
variable {X:Cx}{pos:Pos}{tg iter tg2 iter2 ek ev:aF}{ifs ifs2:List aF}{scope:Scope}{N:ar}{cap:List (bo)}{src src2:Ic}{g g2:Tg}{t t2:Te}{ck cv:Ex}{o:O}{ob:HO}{st:A->A->A->iH->R Unit}
def Jq(dk:DKind X.K o ob st)(σ:L2.St)(H:Hp)(Q:VK)(h9:tE X (IE o st cap src g t src2 g2 t2 ck cv) σ H Q):NB ob cap (tI X src) (Jl X.K g) (HJ X.K t) (Q7 X.K src2) (Jl X.K g2) (HJ X.K t2) (JK X.K ck) (JK X.K cv) σ H Q:=by
 z_go;refine⟨ρ,S,τ,R,r,iE (iI h) .refl λs S1 h1 ρ1 H1 J e1 R1 jr D hD=>?_⟩;obtain⟨τ2,S2,hcg,h1⟩:=qR h1;have h1:tY X ρ H Q (.ref S1.length) S2:=h1;obtain⟨eD,RD,atD⟩:=dk.new R1 hD;refine⟨λi m V H'=>∃ρ' S' G,i+m=s.k/\Ext (ρ1++[D]) ρ' (upd H1 D ob) H'/\Rel X.K ρ' H' S'/\SR X.K ρ' H' G V/\oU st s g t src2 g2 t2 ck cv S1.length m i G S'=.ok τ2 S2,⟨s.k,ρ1++[D],S1++[o],lH cap τ,(),.refl,RD,HQ ((r.ext e1).ext eD) cap,hcg⟩,?_⟩;rintro i m σ3 H3 ⟨ρ3,S3,τ3,hm,e3,R3,r3,j⟩;have at3:ρ3[S1.length]?=some D:=I0 e3.pre atD;have P:=eD.trans e3
 cases m with
 | zero=>
  left;have j:(if s.fin S3 then Am.R.ok τ3 S3 else .no)=.ok τ2 S2:=j
  cases hf:s.fin S3 with
  | false=>rw[hf]at j;cases j
  | true=>
   rw[hf]at j
   cases j
   exact⟨by rw[show i=s.k by lia];exact jr.stop _ H3 ρ3 P.toExt0 R3 hf,h1 ρ3 H3 _ (e1.trans P) R3<|.ref at3⟩
 | succ m=>
  right;refine As j λx τ4 S4 b S5 hx hg4 ht5 hT hF=>?_;have jg:=jr.go i S3 H3 ρ3 x P.toExt0 R3 hx;refine⟨jg.1,λv H4 y=>?_⟩;obtain⟨e4,R4,v4⟩:=jg.2 v H4 y;gp_on;have e36:=(e4.trans e5).trans e6
  cases b with
  | false=>
   dsimp only;rw[aU bg];exact⟨m,bE _,ρ6,S5,τ4,(),e3.trans e36,R6,r5.ext e6,hF rfl⟩
  | true=>
   dsimp only;rw[aS rfl];obtain⟨U,S6,τ7,S7,hs6,ci7,co7⟩:=hT rfl;refine⟨ρ6,S5,τ4,U,S6,R6,r5.ext e6,hs6,λρ8 H8 J2 e8 R8 jr2=>?_⟩;have e38:=e36.trans e8;refine⟨λi2 m2 V H'=>∃ρ' S' G,i2+m2=U.k/\Ext ρ8 ρ' H8 H'/\Rel X.K ρ' H' S'/\SR X.K ρ' H' G V/\t9 st U g2 t2 ck cv S1.length m2 i2 G S'=.ok τ7 S7,⟨U.k,ρ8,S6,τ4,(),.refl,R8,r5.ext<|e6.trans e8,ci7⟩,?_⟩;rintro i2 m2 σ9 H9 ⟨L,S9,τ9,hm2,Z,R9,r9,f⟩
   cases m2 with
   | zero=>
    left;have f:(if U.fin S9 then Am.R.ok τ9 S9 else .no)=.ok τ7 S7:=f
    cases hf:U.fin S9 with
    | false=>rw[hf]at f;cases f
    | true=>
     rw[hf]at f
     cases f
     exact⟨by rw[show i2=U.k by lia];exact jr2.stop _ H9 L Z.toExt0 R9 hf,m,bE _,L,_,_,(),(e3.trans e38).trans Z,R9,r9,co7⟩
   | succ m2=>
    right;refine DM f λx9 d S10 b10 W hx9 hg10 ht11 hT9 hF9=>?_;have jg2:=jr2.go i2 S9 H9 L x9 Z.toExt0 R9 hx9;refine⟨jg2.1,λv10 H10 y10=>?_⟩;obtain⟨e10,R10,v10'⟩:=jg2.2 v10 H10 y10;refine⟨L,S9,τ9,x9,d,S10,R10,r9.ext e10,v10',hg10,λρ11 H11 σ11 e11 R11 C=>⟨ρ11,S10,d,b10,W,R11,C,ht11,λO H12 B R12=>?_⟩⟩;have M:=(e10.trans e11).trans B
    cases b10 with
    | false=>
     dsimp only;rw[aU bg];exact⟨m2,bE _,O,W,d,(),Z.trans M,R12,C.ext B,hF9 rfl⟩
    | true=>
     dsimp only;rw[aS rfl];obtain⟨y,S13,z,S14,u,S15,hy,hz,hst,cg15⟩:=hT9 rfl;refine⟨O,W,d,y,S13,R12,C.ext B,hy,λρ13 H13 vy F R13 a13=>⟨ρ13,S13,d,z,S14,R13,C.ext<|B.trans F,hz,λρ14 H14 vz Y R14 a14=>?_⟩⟩;have N:=(M.trans F).trans Y;obtain⟨H15,dp,e15,R15⟩:=dk.put R14 (I0 (((e3.trans e38).trans Z).trans N).pre atD) (a13.ext Y) a14 hst;exact⟨H15,dp,m2,bE _,ρ14,S15,d,(),(Z.trans N).trans e15,R15,C.ext<|((B.trans F).trans Y).trans e15,cg15⟩
def Et(dk:∀K,DKind K o ob st)(hu:X.A.units+64<cLine){i:Nat}{x:Str}{j:Pos}(hN:X.N.Nodup)(hc:X.calm=true)(Sc:CpScope X scope N cap)(hi:AI X tg iter src)(hg:∀C s₀ H₀ ex,AG (iZ X scope N C s₀ H₀ ex) tg g)(ht:∀C s₀ H₀ ex,Mf (iZ X scope N C s₀ H₀ ex) ifs t)(J:∀C s₀ H₀ ex,AI (iZ X scope N C s₀ H₀ ex) tg2 iter2 src2)
  (L:∀C s₀ H₀ ex,AG (iZ X scope N C s₀ H₀ ex) tg2 g2) (M:∀C s₀ H₀ ex,Mf (iZ X scope N C s₀ H₀ ex) ifs2 t2) (hk:∀C s₀ H₀ ex,AE (iZ X scope N C s₀ H₀ ex) ek ck) (hv:∀C s₀ H₀ ex,AE (iZ X scope N C s₀ H₀ ex) ev cv)
  (U:X.N[i]?=some x<|>ε) (hx:Loc X.env.scope x:=by first|exact Or.inl rfl|exact Or.inr rfl)
  (Z:(swapsWith (.DictComp ek ev [⟨tg,iter,ifs,0⟩,⟨tg2,iter2,ifs2,0⟩] scope pos) (some<|.Name x pos') j.line X.env=pure true)<|>ε) (hf:X.fn x=true\/X.env.scope.names.lookup x=some .local<|>γ)
  (hs:(∀x,foldedSetIterable iter X.env x=pure x)<|>ζ) (hs2:∀env x,foldedSetIterable iter2 env x=pure x:=by intro _ _;rfl):AS X (.Assign [.Name x pos'] (.DictComp ek ev [⟨tg,iter,ifs,0⟩,⟨tg2,iter2,ifs2,0⟩] scope pos) j) (jn (IE o st cap src g t src2 g2 t2 ck cv)<|je i):=
 PS.imp (D3 (dk X.K).obj () hN U hx hc Sc hi (g:=Jl X.K g) (tc:=HJ X.K t) (wi2:=Q7 X.K src2) (g2:=Jl X.K g2) (tc2:=HJ X.K t2) (tk:=JK X.K ck) (tv:=JK X.K cv) (λC s₀ H₀ ex=>(hg C s₀ H₀ ex).g0 rfl) (λC s₀ H₀ ex=>ht C s₀ H₀ ex) (λC s₀ H₀ ex=>(J C s₀ H₀ ex).i0 rfl) (λC s₀ H₀ ex=>(L C s₀ H₀ ex).g0 rfl) (λC s₀ H₀ ex=>M C s₀ H₀ ex) (λC s₀ H₀ ex=>(hk C s₀ H₀ ex).e0 rfl) (λC s₀ H₀ ex=>(hv C s₀ H₀ ex).e0 rfl) Z hf hs hs2) λD σ H ⟨ρ,S,τ,R,r,h⟩=>
  Jq (dk X.K) σ H _ ⟨ρ,S,τ,R,r,iE (of_post h) .refl λa S1 h1 ρ1 H1 x e1 d f=>h1 ρ1 H1 _ e1 d<|(r.ext e1).set f⟩
end
abbrev E8 (x:A)(S:iH):R A:=match x with
 | .ref n=>opt (pA S n) λkvs=>.ok (.int kvs.length) S
 | _=>.no
def JH{n:Nat}:E8 (.ref n) S=opt (pA S n) λkvs=>.ok (.int kvs.length) S:=rfl
def NR:jj X (.builtin "len") (rN X<|f1 E8):=λpins s σ H xs us Q I r h0=>by
 kcf_m;clear h0
 cases hv with
 | ref hp=>
  obtain⟨kvs,hn,h⟩:=iK h;obtain⟨ks,e,d⟩:=R.m_ hp<|nv hn;kst_p
  cases rx
  exact P4 I (.inl e) λt s' f=>⟨.int ks.length,H,f,⟨_,rfl⟩,by rw[<- d.length];exact h _ _ _ .refl R<|.int _⟩
 | _=>exact h.elim
section
abbrev Nj (p:ag×A):A:=.tup<|p.1.map .int
end
section
variable {X:Cx}{pos:Pos}{a b:aF}
abbrev ny (S:iH)(n:Nat):Option (List<|ag×A):=match S[n]? with
 | some (.dct kvs)=>some kvs
 | some (.dcf kvs)=>some kvs
 | _=>none
def JW{K:aA}{H:Hp}{n:Nat}{p:aq}(R:Rel K ρ H S)(hp:ρ[n]?=some p)(hn:ny S n=some kvs):∃ks,Rd H p (.dT ks)/\DV K ρ H kvs ks:=by
 unfold ny at hn;split at hn
 ·rename_i h
  cases hn
  obtain⟨ks,e,d⟩:=R.at n p _ hp h;exact⟨ks,.inl e,d⟩
 ·rename_i h
  cases hn
  obtain⟨o,ks,e,d⟩:=R.at n p _ hp h;exact⟨ks,.inr ⟨o,e⟩,d⟩
 ·cases hn
def Ib{H:Hp}{p q:aq}{n:Nat}{ns:ag}(R:Rel X.K ρ H S)(hp:ρ[n]?=some p)(hn:ny S n=some kvs)(j:H q=some (.tup vs))(r:AVs X.K ρ H xs vs)(hi:A.ints xs=some ns) :
  ∃ks,DV X.K ρ H kvs ks/\tZ H p (.ref q) (m7 ks<|ns.map Sum.inl):=by
 obtain⟨ks,e,d⟩:=JW R hp hn;have z:=oR r hi;subst z;rw[<- r6]at j;exact⟨ks,d,.inr ⟨ks,ns.map Sum.inl,q,e,rfl,j,rfl⟩⟩
abbrev xS (x y:A)(S:iH):R A:=match x,y with
 | .ref n,.tup xs=>opt (ny S n) λkvs=>opt (A.ints xs) λd=>opt (j3 kvs d) λv=>.ok v S
 | _,_=>.no
def PY(J:X.A.units+64<cLine):LV X (r2 X xS):=λf j pins s σ H x y v u Q I rx ry ⟨ρ,S,a,b,R,va,vb,h⟩ hs=>by
 cases va with
 | @ref p n hp=>
  cases vb with
  | @tup q xs C B r=>
   obtain⟨kvs,hn,h⟩:=iK h;obtain⟨k,hi,h⟩:=iK h;obtain⟨z,m,h⟩:=iK h;obtain⟨ks,d,g⟩:=Ib R hp hn B r hi;obtain⟨w,hw,t⟩:=(d.look k).2 z m;rw[hw]at g;exact BC () f j pins s σ H _ _ v u Q I rx ry ⟨p,w,rfl,g,h _ _ _ .refl R t⟩ hs
  | _=>exact h.elim
 | _=>exact h.elim
def Fy(j:X.A.units+64<cLine){ca cb:Ex}(J:AE X a ca)(hb:AE X b cb)(hs:uf b<|>θ):AE X (.Subscript a b pos) (iR xS ca cb):=PE.imp (E5 (PY j) J hb hs) λσ H Q h=>p_ h
def Rel.PC{K:aA}{H:Hp}{S:iH}{n:Nat}{a:aq}{ks:List<|List Key×V}(R:Rel K ρ H S)(j:ρ[n]?=some a)(J:S[n]?=some (.dct xs))(d:DV K ρ H xs ks):Ext ρ ρ H (upd H a<|.frz o<|.dT ks)/\Rel K ρ (upd H a<|.frz o<|.dT ks) (S.set n<|.dcf xs):=by
 obtain⟨ex,R2⟩:=R.gone (o:=o) (u:=.dT ks) j J;refine⟨ex,by rw[bH];exact R.len,R.nd,λm b ob h1 h2=>?_⟩;by_cases hm:m=n
 ·subst hm;rw[j]at h1;cases h1;rw[bG (aL.mp J).1]at h2
  cases h2
  exact⟨o,ks,i7,d.ext ex⟩
 ·rw[bF<|cj hm]at h2;exact R2.at m b ob h1<|by rw[bF<|cj hm];exact h2
abbrev MW (a:A)(S:iH):R Src:=match a with
 | .ref n=>opt (jJ S n) λkvs=>.ok (nJ<|kvs.map Nj) (S.set n<|.dcf kvs)
 | _=>.no
abbrev Ju (c:Ex):Ic:=λτ S=>(c τ S).bind λa S1=>MW a S1
def zA{c:Ex}(U:AE X e c):AI X tg e (Ju c):=λpins s σ H Q I h9=>by
 z_go;refine JS U pins s σ H Q I ⟨ρ,S,τ,R,r,iE (iI h) .refl λx S1 h1 ρ1 H1 v e1 R1 L=>?_⟩
 cases L with
 | @ref p n hp=>
  obtain⟨kvs,hn,h1⟩:=iK h1;obtain⟨ks,g1,m⟩:=R1.dct hp<|jF hn;refine⟨p,ks,rfl,g1,λo d t j=>?_⟩;obtain⟨ex,R2⟩:=R1.PC (o:=o) hp (jF hn) m;have dl:=m.length;refine h1 ρ1 _ _ (e1.trans ex) R2 ⟨λi S2 H2 f y e2 z g=>?_,λS2 H2 f e2 z _=>⟨?_,e2.im _ _ trivial i7⟩⟩
  ·have g:(kvs.map Nj)[i]?=some y:=g;rw[aY]at g;obtain⟨M,F,rfl⟩:=bu.mp g;obtain⟨q,C,K,O⟩:=Mu m F;have hi:i<d.length:=by rw[t];exact(aL.mp C).1
   have e4:=j i d[i] q (aH hi) C;refine⟨⟨⟨d[i],aH hi⟩,e2.im _ _ trivial i7⟩,λN H' J=>?_⟩;obtain⟨rfl,G⟩:=J;have k:=G _<|aH hi;subst k;have B:H' d[i]=some (.tup<|q.1.map kV):=e2.im _ _ trivial<|ex.toExt0.im _ _ trivial e4;rw[K,r6]at B;exact⟨.refl,z,.tup B<|pN _⟩
  ·show(kvs.map Nj).length=d.length;rw[aN,dl,t]
 | _=>exact h1.elim
end
end Am
namespace L2
open PySem PySem.Spec PyProof.Rows
section
variable {P:ah}{w:af}
meta abbrev tK (P:ah)(w:af):=tupleKind<|jD P w
end
section
variable {P:ah}{w:af}{A:aC}{s:aE}
abbrev th (P:ah)(w:af)(k:List Key):Int:=(tK P w).hash k
def wV{es:List DictEntry}(h:(es.map (·.hash)).Nodup):∀e∈es,(es.filter (·.hash == e.hash)).length<=1:=by
 induction es with
 | nil=>intro e d;cases d
 | cons x es f=>
  rw[bD,bP]at h;intro e d;by_cases q:(x.hash == e.hash)=true
  ·rw[List.filter_cons_of_pos (p:=λy:DictEntry=>y.hash == e.hash) q];have:es.filter (λy=>y.hash == e.hash)=[]:=by
    rw[List.filter_eq_nil_iff];intro y hy z;have e1:x.hash=e.hash:=by simpa using q
    have e2:y.hash=e.hash:=by simpa using z
    exact h.1<|by rw[e1,<- e2];exact bK.2 ⟨y,hy,rfl⟩
   rw[this];exact aO _
  ·rw[fL (p:=λy:DictEntry=>y.hash == e.hash) q]
   rcases a_.1 d with rfl|d
   ·exact absurd (by simp) q
   ·exact f h.2 e d
def z_{id:String}{o:Obj}{es ep}{E:aa->aE->Prop}{Q:Array DictEntry->aE->Prop}(J:s.heap.get? d=some o)(hd:o.data=.dict es ep)
  (L:∀e∈es.toList,s.TypeIs e.key "tuple" /\ ∃a,e.key=.ref a) (hn:(es.toList.map (·.hash)).Nodup) (h:Q es s) :
  wpAny (model P w) A (Builtin.Dict.entriesForEmpty id d) Q E s:=by
 unfold Builtin.Dict.entriesForEmpty;refine aJ<|dP J hd ?_;refine aJ ?_;rw[<- Array.forIn_toList];refine wpAny_forIn_list _ (λrest _ s'=>s'=s/\∀e∈rest,e∈es.toList) _ ?_ ?_ _ _ ⟨rfl,λe g=>g⟩
 ·rintro x rest b s' ⟨rfl,hr⟩;obtain⟨k,a,j⟩:=L x<|hr x<|aM ..;refine aJ ?_;rw[j]at k;rw[j];show wpAny _ _ (specialOf (.ref a) "__eq__" >>= _) _ _ _;refine aJ<|wpAny_specialOf k F.slot_tuple_eq.lookup<|aP ?_;have f:=wV hn x<|hr x<|aM ..;have e1:(es.filter (·.hash == x.hash)).size<=1:=by
   rw[<- b7,Array.toList_filter];exact f
  have e0:(some (Value.builtin "tuple.__eq__") == some (Value.builtin "object.__eq__"))=false:=by decide +kernel
  rw[e0,aS<|by rfl,aU ()];exact aP ⟨rfl,λe g=>hr e<|aK _ g⟩
 ·rintro b s' ⟨rfl,_⟩;exact aP h
end
section
variable {X:Cx}
def Ae(hc:X.calm=true):jj X (.type "dict") (λxs H Q=>∃(p:aq) (kvs:List<|List Key×V),xs=[.ref p]/\Rd H p (.dT kvs)/\kvs≠[]/\(kvs.map λkv=>th X.prog X.w kv.1).Nodup /\
  ∀l,H l=none->Q (.ref l) (upd H l<|.dT kvs)):=by
 kt_k;obtain⟨p,kvs,rfl,hq,L,O,q⟩:=h;kst_p
 cases rx
 obtain⟨hz,W,xs,M,o,es,ep,Y,hx,hd,C,hk,hn⟩:=Ca I.hok hq;have lp:p<s.heap.objs.size:=aZ Y;have f:kvs.length=xs.length:=by
  have:∀{l:List<|List Key×V} {m:List<|List Key×aq×aa},KT H l m->l.length=m.length:=by
   intro l m q
   induction q with
   | nil=>rfl
   | cons _ _ U=>rw[bw,bw,U]
  exact this M
 have G:kvs.map (·.1)=xs.map (·.1):=by
  have:∀{l:List<|List Key×V} {m:List<|List Key×aq×aa},KT H l m->l.map (·.1)=m.map (·.1):=by
   intro l m q
   induction q with
   | nil=>rfl
   | cons h _ U=>rw[bD,bD,U,h.1]
  exact this M
 have N:es.size=xs.length:=size_of_entries C;refine callType_codes (Q₁:=λobj g=>obj=.ref s.heap.objs.size/\g={ s with heap:=s.heap.push { cls:=.type "dict",data:=.dict #[]}}) F.kt_called_dict (F.kt_typeCall_dict_1 _) F.entry_dict_init (kt_code_dict_new _ ⟨rfl,rfl⟩) ?_;rintro obj g ⟨rfl,rfl⟩;have J:(s.heap.push { cls:=.type "dict",data:=.dict #[]}).DictOf (jD X.prog X.w) s.heap.objs.size []:=Heap.DictOf.new s.heap;have d:(s.heap.push { cls:=.type "dict",data:=.dict #[]}).get? s.heap.objs.size=some { cls:=.type "dict",data:=.dict #[]}:=bJ _ rfl;have j:(s.heap.push { cls:=.type "dict",data:=.dict #[]}).get? p=some o:=aQ _ Y;have B:Shared.TypeIs { s with heap:=s.heap.push { cls:=.type "dict",data:=.dict #[]}} (.ref p) "dict" := ⟨o,j,hx.1⟩;have K:s.heap.objs.size≠p:=cj<|bB lp;refine⟨J.typeIs,F.args_dict_init_2 _ _,?_⟩;unfold Builtin.«dict.__init__»;refine aJ ?_;unfold Builtin.Dict.selfAndRest;refine aJ<|wpAny_notOrdered_dict J.typeIs ?_;show wpAny _ _ (pure (s.heap.objs.size,[Value.ref p])) _ _ _;refine aP ?_;show wpAny _ _ (Builtin.Dict.updateFrom "dict.__init__" s.heap.objs.size (.ref p) [] .none) _ _ _;unfold Builtin.Dict.updateFrom;refine aJ<|wpAny_typeOf B ?_;rw[aU ⋯];refine aJ ?_;unfold Builtin.Dict.merge;refine aJ ?_;unfold Builtin.Dict.readDirectly;refine aJ<|wpAny_isInstance B isSubtype_dict_dict ?_;dsimp[fE,dw,c_];refine aJ<|wpAny_specialOf B F.slot_dict_iter.lookup<|aP ?_;dsimp[cD,eE];refine aJ<|aP ?_;unfold Builtin.Dict.mergeDict;rw[aU<|by simpa using K];unfold Builtin.Dict.showsAll;rw[aU<|by rw[W];exact bg];refine aJ<|aP ?_;refine aJ<|dP j hd ?_;have tup:∀e∈es.toList,Shared.TypeIs { s with heap:=s.heap.push { cls:=.type "dict",data:=.dict #[]}} e.key "tuple" /\ ∃a,e.key=.ref a:=λe hm=>by
  rw[C]at hm;obtain⟨x,hx,rfl⟩:=bK.1 hm;obtain⟨o2,a2,n2,h2,c2,_⟩:=hk x hx;exact⟨⟨o2,aQ _ h2,c2⟩,_,rfl⟩
 have nz:es.toList≠[]:=by rw[C];intro z;have:=ff.1 z;exact L (cO.1<|by rw[f,this];rfl)
 have few:(es.all λe=>(keyPart e.key).isSome)=false:=by
  rw[<- Array.all_toList]
  cases e:es.toList with
  | nil=>exact absurd e nz
  | cons x t=>
   obtain⟨_,a,ea⟩:=tup x (by rw[e];exact aM ..);rw[all_cons,ea];rfl
 dsimp only;rw[few,Bool.and_false,Bool.not_false,aS rfl];refine aJ<|dP d rfl ?_;rw[aS<|by rfl];have k:(es.toList.map (·.hash)).Nodup:=by
  rw[C,bM];have e1:xs.map ((·.hash) ∘ entryOfKey (tK X.prog X.w))=kvs.map λkv=>th X.prog X.w kv.1:=by
   have e2:xs.map ((·.hash) ∘ entryOfKey (tK X.prog X.w))=(xs.map (·.1)).map (th X.prog X.w):=by rw[bM];rfl
   rw[e2,<- G,bM];rfl
  rw[e1];exact O
 refine aJ<|z_ j hd tup k ?_;rw[aS (by
  have:es.isEmpty=false:=by
   cases e:es.isEmpty with
   | false=>rfl
   | true=>exact absurd (by rw[Array.isEmpty_iff.1 e]) nz
  rw[this];rfl)]
 have P:es.size<=sizeLine+1:=by rw[N,<- f];lia
 refine aJ<|wpAny_updateDictKeysTo d rfl (aP ?_) P;show wpAny _ _ (Builtin.Dict.addKeywords s.heap.objs.size [] >>= _) _ _ _;refine aJ (aP<|aP ⟨rfl,.ref s.heap.objs.size,_,I.laid (t':=s.toks) (o:=.dT kvs) (λb ob Z=>?_) (aO _) ?_,rfl,q _<|I.hok.fresh<|aO _⟩)
 ·have lb:=aZ Z;rw[(gC ..).2 b<|bB lb];exact aQ _ Z
 ·refine⟨hz,c9.mpr<|cj<|bB I.big,xs,M.keeps λb ys hb=>?_,_,es,1,fY _ d<|Obj.isFreed_of_dict<|Obj.data_mapDictKeys rfl _,?_,Obj.data_mapDictKeys rfl _,C,hn⟩
  ·have:b≠s.heap.objs.size:=λz=>by rw[z,I.hok.fresh<|aO _]at hb;cases hb
   rw[iG this];exact hb
  ·exact(show Obj.ExactDict _ from⟨rfl,rfl,rfl⟩:Obj.ExactDict { cls:=.type "dict",data:=.dict #[]}).mapDictKeys _
end
end L2
namespace Am
open PySem PySem.Spec PyProof.Rows L2
abbrev hI (ns:ag):Int:=reduceHash<|Builtin.Tuple.tupleHashOf<|ns.map hashInt
def QE(P:ah)(w:af)(ns:ag):th P w (ns.map Sum.inl)=hI ns:=by
 show reduceHash (Builtin.Tuple.tupleHashOf<|(ns.map Sum.inl).map<|Qg w)=_;rw[bM];rfl
section
variable {K:aA}{ρ:bd}{H:Hp}
theorem DV.th(P:ah)(w:af):∀{kvs:List<|ag×A}{ks:List<|List Key×V},DV K ρ H kvs ks->(ks.map λkv=>L2.th P w kv.1)=kvs.map λkv=>hI kv.1
 | [],[],_=>rfl
 | p::r,q::r',⟨⟨h,_⟩,t⟩=>by rw[bD,bD,DV.th P w t,h,QE]
 | [],_::_,h=>h.elim
 | _::_,[],h=>h.elim
end
section
variable {X:Cx}
abbrev AB (x:A)(S:iH):R A:=match x with
 | .ref n=>opt (jJ S n) λkvs=>if kvs≠[]/\(kvs.map λd=>hI d.1).Nodup then .ok (.ref S.length) (S++[.dct kvs])else .no
 | _=>.no
def KD(hc:X.calm=true):jj X (.type "dict") (rN X<|f1 AB):=jj.imp (Ae hc) λvs H Q h0=>by
 kcf_m;clear h0
 cases hv with
 | ref hp=>
  rename_i p n;obtain⟨kvs,hn,h⟩:=iK h;obtain⟨ks,e,d⟩:=R.at n p _ hp<|jF hn;by_cases c:kvs≠[]/\(kvs.map λg=>hI g.1).Nodup
  ·rw[aS c]at h;refine⟨p,ks,rfl,.inl e,λz=>?_,by rw[DV.th X.prog X.w d];exact c.2,λl f=>?_⟩
   ·subst z
    cases kvs with
    | nil=>exact c.1 rfl
    | cons _ _=>exact d.elim
   ·obtain⟨ex,j,f⟩:=R.Sn (xs:=kvs) (vs:=ks) f d;exact h _ _ _ ex j<|.ref f
  ·rw[aU c]at h;exact h.elim
 | _=>exact h.elim
end
end Am
namespace K63
open PySem L2 Am
abbrev top (i:Nat):aG:=PySem.Challenge.pw_undercells_k63_whole_longest_picks.main.body.getD i<|.Pass ⟨0,0,0,0⟩
meta abbrev qu:aG:=top 4
meta abbrev qx:ar:=["thing"]
meta abbrev qy:ar:=["thing"]
abbrev qJ:Sm:=
 j4 (vH (iY (f2 DX)<|iD (iB 0)<|iD (eC<|.ty "int") iO)<|MH<|iY (f2 DX)<|iD (iB 0)<|iD (eC<|.ty "bool") iO)
abbrev mF:ae->iH->R A:=lu qx qJ
meta abbrev p7:aG:=top 8
meta abbrev pM:ar:=["thing"]
meta abbrev pD:ar:=["thing"]
abbrev pH:Sm:=
 j4 (vH (eFn mF<|iD (iB 0) iO)<|O6 xZ xZ (eC<|.int 1) (iB 0)<|eC<|.int 1000000000)
abbrev kH:ae->iH->R A:=lu pM pH
meta abbrev oh:aG:=top 9
meta abbrev n9:ar:=["thing"]
meta abbrev om:ar:=["thing"]
abbrev ou:Sm:=
 j4 (vH (iY (f2 DX)<|iD (iB 0)<|iD (eC<|.ty "list") iO)<|iY (f1 DH)<|iD (jE [none] (jW<|iB 0) (je 0) jK<|eFn kH<|iD (iB 0) iO) iO)
abbrev kL:ae->iH->R A:=lu n9 ou
meta abbrev mD:aG:=top 10
meta abbrev mT:ar:=["thing"]
meta abbrev m5:ar:=["thing"]
abbrev mR:Sm:=
 j4 (vH (eFn kL<|iD (iB 0) iO)<|vH (iR MT (iY (f1 kX)<|iD (iB 0) iO)<|eC<|.int 0)<|iR (uv false) (iB 0)<|iY (f1 vp)<|iD (iB 0) iO)
abbrev jy:ae->iH->R A:=lu mT mR
meta abbrev oz:aG:=top 11
meta abbrev oF:ar:=["row", "above"]
meta abbrev n_:ar:=["row", "above"]
abbrev oH:Sm:=
 j4 (vH (iR xZ (iY (f1 kX)<|iD (iB 0) iO)<|iY (f1 kX)<|iD (iB 1) iO)<|iY (f1 DH)<|iD (jE [none,none] (wC (iB 1)<|iB 0) (Ak 2<|tN (je 0)<|tN (je 1) CC) jK<|iR EA (iB 0)<|iB 1) iO)
abbrev jQ:ae->iH->R A:=lu oF oH
meta abbrev qD:aG:=top 12
meta abbrev qz:ar:=["thing"]
meta abbrev qQ:ar:=["thing"]
abbrev qE:Sm:=
 i_ (vD (L8 (zB<|vF<|iY (f2 DX)<|iD (iB 0)<|iD (eC<|.ty "list") iO)<|zB<|vF<|iY (f1 DH)<|iD (jE [none] (jW<|iB 0) (je 0) jK<|eFn jy<|iD (iB 0) iO) iO)
 (j4<|eC<|.bl false)
 nY)
 (j4<|iY (f1 DH)<|iD (jE [none,some 0] (uX (eC<|.int 1)<|iY (f1 kX)<|iD (iB 0) iO) (je 0) jK<|eFn jQ<|iD (iR o6 (iB 1)<|iB 0)<|iD (iR o6 (iB 1)<|iR aSub (iB 0)<|eC<|.int 1) iO) iO)
abbrev k7:ae->iH->R A:=lu qz qE
meta abbrev lU:aG:=top 13
meta abbrev lX:ar:=["row", "letter", "place"]
meta abbrev lN:ar:=["row", "letter"]
abbrev kR:Te:=
 vC (qe<|iR EA (iB 2)<|iY (f1 kX)<|iD (iB 0) iO) (qe<|iR xZ (iR o6 (iB 0)<|iB 2)<|iB 1)
abbrev kM:Sm:=
 z6 2 JU (eC<|.int 1)
abbrev lV:Sm:=
 i_ (jn (eC<|.int 0)<|je 2)
 (i_ (j9 kR
 kM 1000000)
 (j4<|iB 2))
abbrev jT:ae->iH->R A:=lu lX lV
meta abbrev lR:aG:=top 14
meta abbrev lO:ar:=["rows", "letter", "at", "place"]
meta abbrev l5:ar:=["rows", "letter"]
abbrev kK:Te:=
 qe (iR EA (iB 2)<|iY (f1 kX)<|iD (iB 0) iO)
abbrev kU:Sm:=
 i_ (jn (eFn jT<|iD (iR o6 (iB 0)<|iB 2)<|iD (iB 1) iO)<|je 3)
 (i_ (vD (qe<|iR (uv false) (iB 3)<|iY (f1 kX)<|iD (iR o6 (iB 0)<|iB 2) iO)
 (i_ (qo<|Jp lE (iR o6 (iB 0)<|iB 2)<|iD (iB 1) iO)
 (j4<|iB 2))
 nY)
 (i_ (jn (qh<|iD (iB 1)<|iD (iR o6 (iR o6 (iB 0)<|iB 2)<|iB 3) iO)<|Ak 2<|tN (OQ (iR o6 (iB 0)<|iB 2)<|iB 3)<|tN (je 1) CC)
 (z6 2 JU<|eC<|.int 1)))
abbrev lZ:Sm:=
 i_ (jn (eC<|.int 0)<|je 2)
 (i_ (j9 kK
 kU 1000000)
 (i_ (qo<|Jp lE (iB 0)<|iD (rH<|iD (iB 1) iO) iO)
 (j4<|iB 2)))
abbrev jU:ae->iH->R A:=lu lO lZ
meta abbrev ux:aG:=top 15
meta abbrev uN:ar:=["table"]
meta abbrev vc:ar:=["table"]
abbrev vf:Sm:=
 j4 (jE [none] (jW<|iB 0) (je 0) jK<|iY (f1 pB)<|iD (iB 0) iO)
abbrev pZ:ae->iH->R A:=lu uN vf
meta abbrev u7:aG:=top 16
meta abbrev uE:ar:=["row", "first", "second", "at", "letter", "new"]
meta abbrev uD:ar:=["row"]
abbrev uK:Ic:=
 Eu (iB 0)
abbrev uS:Sm:=
 i_ (jn (eFn jU<|iD (iB 1)<|iD (iB 4) iO)<|je 5)
 (i_ (vD (qe<|iR (uv false) (iB 5)<|iY (f1 kX)<|iD (iB 2) iO)
 (qo<|Jp lE (iB 2)<|iD (rH iO) iO)
 nY)
 (qo<|Jp lE (iR o6 (iB 2)<|iB 5)<|iD (iR ow (iB 3)<|eC<|.int 1) iO))
abbrev uI:Sm:=
 i_ (jn (rH iO)<|je 1)
 (i_ (jn (rH iO)<|je 2)
 (i_ (m8 uK (Ak 2<|tN (je 3)<|tN (je 4) CC)
 uS)
 (j4<|qh<|iD (iB 1)<|iD (iB 2) iO)))
abbrev pR:ae->iH->R A:=lu uE uI
meta abbrev xK:aG:=top 17
meta abbrev rQ:ar:=["table"]
meta abbrev ur:ar:=["table"]
abbrev rR:Sm:=
 j4 (jE [none] (jW<|iB 0) (je 0) jK<|iY (f1 kX)<|iD (iB 0) iO)
abbrev j6:ae->iH->R A:=lu rQ rR
meta abbrev kq:aG:=top 18
meta abbrev ki:ar:=["first", "second", "numbers"]
meta abbrev kj:ar:=["first", "second"]
abbrev j_:Sm:=
 i_ (vD (L8 (zB<|vF<|eFn k7<|iD (iB 0) iO)<|L8 (zB<|vF<|eFn k7<|iD (iB 1) iO)<|qe<|iR (uv true) (eFn j6<|iD (iB 0) iO)<|eFn j6<|iD (iB 1) iO)
 (j4<|eC<|.bl false)
 nY)
 (i_ (jn (iY (f1 vp)<|iD (xg [none,none] (jW<|iB 1) (je 0) jK (jW<|iB 0) (je 1) jK<|iB 1) iO)<|je 2)
 (j4<|vH (iR xZ (iY (f1 kX)<|iD (iB 2) iO)<|eC<|.int 40)<|iR (uv false) (iB 2)<|iY (f1 pB)<|iD (iY (f2 wL)<|iD (eC<|.int 1)<|iD (iR ow (iY (f1 kX)<|iD (iB 2) iO)<|eC<|.int 1) iO) iO))
abbrev ju:ae->iH->R A:=lu ki j_
meta abbrev mX:aG:=top 19
meta abbrev mZ:ar:=["row", "letter", "place"]
meta abbrev mW:ar:=["row", "letter"]
abbrev nS:Te:=
 qe (iR PZ (iR o6 (iB 0)<|iB 2)<|iB 1)
abbrev nX:Sm:=
 z6 2 aSub (eC<|.int 1)
abbrev mP:Sm:=
 i_ (jn (iR aSub (iY (f1 kX)<|iD (iB 0) iO)<|eC<|.int 1)<|je 2)
 (i_ (j9 nS
 nX 1000000)
 (j4<|iB 2))
abbrev jX:ae->iH->R A:=lu mZ mP
meta abbrev qF:aG:=top 20
meta abbrev qO:ar:=["rows", "at", "letter", "up", "place"]
meta abbrev qM:ar:=["rows", "at"]
abbrev rT:Ic:=
 ya (iR aSub (iB 1)<|eC<|.int 1) (LP DO<|eC<|.int 1) (LP DO<|eC<|.int 1)
abbrev qZ:Sm:=
 i_ (jn (eFn jX<|iD (iR o6 (iB 0)<|iB 3)<|iD (iB 2) iO)<|je 4)
 (jn (qh<|iD (iB 2)<|iD (iR o6 (iR o6 (iB 0)<|iB 3)<|iB 4) iO)<|Ak 2<|tN (OQ (iR o6 (iB 0)<|iB 3)<|iB 4)<|tN (je 2) CC)
abbrev qN:Sm:=
 i_ (jn (Nv OM<|iR o6 (iB 0)<|iB 1)<|je 2)
 (i_ (m8 rT (je 3)
 qZ)
 (j4<|iB 2))
abbrev mH:ae->iH->R A:=lu qO qN
meta abbrev qP:aG:=top 21
meta abbrev qv:ar:=["first", "second", "rows", "row_of", "told", "number"]
meta abbrev qG:ar:=["first", "second"]
abbrev rZ:Ic:=
 ya (iY (f1 E8)<|iD (iB 3) iO) (eC<|.int 0) (LP DO<|eC<|.int 1)
abbrev rm:Sm:=
 qo (Jp lE (iB 4)<|iD (eFn mH<|iD (iB 2)<|iD (iR DZ (iB 3)<|iB 5) iO) iO)
abbrev qS:Sm:=
 i_ (vD (zB<|vF<|eFn ju<|iD (iB 0)<|iD (iB 1) iO)
 (SQ)
 nY)
 (i_ (jn (eFn pZ<|iD (iB 0) iO)<|je 2)
 (i_ (jn (IE (.m_ []) qp [none,none,none] (Eu<|iB 1) (Ak 2<|tN (je 0)<|tN (je 1) CC) jK (jW<|iB 1) (je 2) jK (iB 2)<|iB 0)<|je 3)
 (i_ (jn (rH iO)<|je 4)
 (i_ (m8 rZ (je 5)
 rm)
 (j4<|LP FZ<|iB 4)))))
abbrev mL:ae->iH->R A:=lu qv qS
meta abbrev sP:aG:=top 23
meta abbrev r_:ar:=["_law_script", "_law_at", "_law_cell", "_law_great"]
meta abbrev sM:ar:=["_law_script", "_law_at"]
abbrev sG:Sm:=
 i_ (jn (eC<|.int 0)<|je 2)
 (i_ (vD (qe<|iR EA (iB 1)<|iY (f1 kX)<|iD (iB 0) iO)
 (jn (iR o6 (iB 0)<|iB 1)<|je 2)
 nY)
 (i_ (jn (eC<|.int 0)<|je 3)
 (i_ (vD (qe<|iR PZ (iB 2)<|iR Eb (eC<|.int 10)<|eC<|.int 18)
 (jn (iB 2)<|je 3)
 nY)
 (j4<|rH<|iD (iB 3)<|iD (iR xC (iR ow (iR ow (iB 2)<|iR zY (eC<|.int 7919)<|iB 1)<|eC<|.int 13)<|eC<|.int 2147483647) iO))))
abbrev nW:ae->iH->R A:=lu r_ sG
meta abbrev pC:aG:=top 24
meta abbrev nu:ar:=["_law_bag_here", "_law_many", "_law_found"]
meta abbrev pS:ar:=["_law_bag_here", "_law_many"]
abbrev ng:Sm:=
 i_ (vD (qe<|iR MT (iR o6 (iB 0)<|eC<|.int 0)<|eC<|.int 0)
 (i_ (jn (iR xC (iR o6 (iB 0)<|eC<|.int 0)<|iB 1)<|je 2)
 (i_ (jn (iR AZ (iR o6 (iB 0)<|eC<|.int 0)<|iB 1)<|OQ (iB 0)<|eC<|.int 0)
 (j4<|iB 2)))
 nY)
 (i_ (jn (iR xC (iR ow (iR zY (iR o6 (iB 0)<|eC<|.int 1)<|eC<|.int 48271)<|eC<|.int 11)<|eC<|.int 2147483647)<|OQ (iB 0)<|eC<|.int 1)
 (j4<|iR xC (iR xC (iR zY (iR AZ (iR o6 (iB 0)<|eC<|.int 1)<|eC<|.int 8)<|eC<|.int 69621)<|eC<|.int 2147483629)<|iB 1))
abbrev jw:ae->iH->R A:=lu nu ng
meta abbrev nP:aG:=top 25
meta abbrev nL:ar:=["_law_bag_here", "_law_most", "_law_many", "_law_way", "_law_base", "_law_made", "_law_k", "_law_letter"]
meta abbrev nE:ar:=["_law_bag_here", "_law_most"]
abbrev t7:Ic:=
 qk (iB 2)
abbrev oX:Sm:=
 i_ (jn (iR ow (eC<|.int 1)<|eFn jw<|iD (iB 0)<|iD (iB 4) iO)<|je 7)
 (i_ (vD (vC (qe<|iR (uv false) (iB 3)<|eC<|.int 3)<|qe<|iR (Sa false) (iB 7)<|iB 5)
 (jn (iR ow (eC<|.int 41)<|iB 6)<|je 7)
 nY)
 (qo<|Jp lE (iB 5)<|iD (iB 7) iO))
abbrev nQ:Sm:=
 i_ (jn (eFn jw<|iD (iB 0)<|iD (iR ow (iB 1)<|eC<|.int 1) iO)<|je 2)
 (i_ (jn (eFn jw<|iD (iB 0)<|iD (eC<|.int 4) iO)<|je 3)
 (i_ (jn (iR o6 (rH<|iD (eC<|.int 3)<|iD (eC<|.int 6)<|iD (iR Eb (eC<|.int 10)<|eC<|.int 9)<|iD (eC<|.int 40) iO)<|iB 3)<|je 4)
 (i_ (jn (rH iO)<|je 5)
 (i_ (m8 t7 (je 6)
 oX)
 (j4<|iB 5)))))
abbrev kr:ae->iH->R A:=lu nL nQ
meta abbrev nN:aG:=top 26
meta abbrev nG:ar:=["_law_letters_here", "_law_down", "_law_best", "_law_k", "_law_here", "_law_j", "_law_good"]
meta abbrev nF:ar:=["_law_letters_here", "_law_down"]
abbrev lJ:Ic:=
 qk (iB 3)
abbrev lY:Sm:=
 i_ (jn (iR xZ (iR o6 (iB 0)<|iB 5)<|iR o6 (iB 0)<|iB 3)<|je 6)
 (i_ (vD (vF<|iB 1)
 (jn (iR MT (iR o6 (iB 0)<|iB 5)<|iR o6 (iB 0)<|iB 3)<|je 6)
 nY)
 (vD (vF<|iB 6)
 (jn (iY (f2 Bw)<|iD (iB 4)<|iD (iR ow (iR o6 (iB 2)<|iB 5)<|eC<|.int 1) iO)<|je 4)
 nY))
abbrev oV:Ic:=
 qk (iY (f1 kX)<|iD (iB 0) iO)
abbrev oW:Sm:=
 i_ (jn (eC<|.int 1)<|je 4)
 (i_ (m8 lJ (je 5)
 lY)
 (qo<|Jp lE (iB 2)<|iD (iB 4) iO))
abbrev nH:Sm:=
 i_ (jn (rH iO)<|je 2)
 (i_ (m8 oV (je 3)
 oW)
 (j4<|iY (f1 Bg)<|iD (iR ow (rH<|iD (eC<|.int 0) iO)<|iB 2) iO))
abbrev jV:ae->iH->R A:=lu nG nH
meta abbrev sR:aG:=top 27
meta abbrev sW:ar:=["_law_letters_here", "_law_held", "_law_letter", "_law_more", "_law_one", "_law_other", "_law_many"]
meta abbrev sD:ar:=["_law_letters_here"]
abbrev tQ:Ic:=
 Ju (iB 1)
abbrev p8:Sm:=
 i_ (jn (iR ow (iR xS (iB 1)<|qh<|iD (iB 4)<|iD (iB 5) iO)<|eC<|.int 1)<|je 6)
 (i_ (vD (vC (qe<|iR xZ (iB 4)<|iB 2)<|qe<|iR EA (Dw Ag (iB 3)<|iD (qh<|iD (iB 2)<|iD (iB 5) iO)<|iD (eC<|.int 0) iO)<|iB 6)
 (jn (iB 6)<|Aj (iB 3)<|qh<|iD (iB 2)<|iD (iB 5) iO)
 nY)
 (vD (vC (qe<|iR xZ (iB 5)<|iB 2)<|qe<|iR EA (Dw Ag (iB 3)<|iD (qh<|iD (iB 4)<|iD (iB 2) iO)<|iD (eC<|.int 0) iO)<|iB 6)
 (jn (iB 6)<|Aj (iB 3)<|qh<|iD (iB 4)<|iD (iB 2) iO)
 nY))
abbrev tM:Ic:=
 jW (iB 0)
abbrev tV:Sm:=
 i_ (jn (iY (f1 AB)<|iD (iB 1) iO)<|je 3)
 (i_ (m8 tQ (Ak 2<|tN (je 4)<|tN (je 5) CC)
 p8)
 (jn (iB 3)<|je 1))
abbrev sF:Sm:=
 i_ (jn (Cz (qh<|iD (eC<|.int 0)<|iD (eC<|.int 0) iO)<|eC<|.int 0)<|je 1)
 (i_ (m8 tM (je 2)
 tV)
 (j4<|iY (f1 Bg)<|iD (jE [none,some 1] (Ju<|iB 1) (je 0) jK<|iR xS (iB 1)<|iB 0) iO))
abbrev n5:ae->iH->R A:=lu sW sF
meta abbrev sQ:aG:=top 28
meta abbrev tw:ar:=["_law_second", "_law_many", "_law_lengths"]
meta abbrev sq:ar:=["_law_second", "_law_many"]
abbrev sZ:Sm:=
 i_ (jn (jE [none,some 1] (jW<|iB 0) (je 0) jK<|iY (f1 kX)<|iD (jE [none,some 1] (jW<|iB 0) (je 0) (qe<|iR xZ (iB 0)<|iB 1)<|iB 0) iO)<|je 2)
 (j4<|jE [none] (jW<|iB 2) (je 0) (qe<|iR MT (iB 0)<|eC<|.int 0)<|iB 0)
abbrev nU:ae->iH->R A:=lu tw sZ
meta abbrev kc:aG:=top 29
meta abbrev ko:ar:=["_law_letters_here", "_law_lengths"]
meta abbrev kg:ar:=["_law_letters_here", "_law_lengths"]
abbrev kh:Sm:=
 i_ (vD (L8 (qe<|iR (uv true) (iY (f1 Eg)<|iD (O8 (iB 1) zF<|yD<|eC<|.int 1) iO)<|eFn jV<|iD (iB 0)<|iD (eC<|.bl false) iO)<|qe<|iR (uv true) (iY (f1 kX)<|iD (iB 1) iO)<|eFn jV<|iD (iB 0)<|iD (eC<|.bl true) iO)
 (j4<|eC<|.bl false)
 nY)
 (j4<|iR (uv false) (iY (f1 Eg)<|iD (O8 (iB 1) zF<|yD<|eC<|.int 2) iO)<|eFn n5<|iD (iB 0) iO)
abbrev jt:ae->iH->R A:=lu ko kh
meta abbrev HK:aG:=top 30
meta abbrev GA:ar:=["_law_script", "_law_k", "_law_letters_here", "_law_first", "_law_second", "_law_many"]
meta abbrev L6:ar:=["_law_script"]
abbrev BD:Ic:=
 qk (iR ow (iY (f1 kX)<|iD (iB 2) iO)<|eC<|.int 1)
abbrev Bu:Sm:=
 vD (zB<|vF<|eFn jt<|iD (O8 (iB 2) zF<|yD<|iB 5)<|iD (eFn nU<|iD (iB 4)<|iD (iB 5) iO) iO)
 (j4<|eC<|.bl false)
 nY
abbrev BB:Ic:=
 qk (iY (f2 Bw)<|iD (eC<|.int 2)<|iD (iY (f2 HN)<|iD (iY (f1 kX)<|iD (iB 0) iO)<|iD (eC<|.int 5) iO) iO)
abbrev CK:Sm:=
 i_ (jn (eFn kr<|iD (eFn nW<|iD (iB 0)<|iD (iB 1) iO)<|iD (eC<|.int 9) iO)<|je 2)
 (i_ (jn (eFn pR<|iD (iY (f1 pB)<|iD (iB 2) iO) iO)<|Ak 2<|tN (je 3)<|tN (je 4) CC)
 (i_ (vD (L8 (qe<|iR (uv true) (eFn j6<|iD (iB 3) iO)<|eFn j6<|iD (iB 4) iO)<|qe<|iR (uv true) (eFn mL<|iD (iB 3)<|iD (iB 4) iO)<|iB 2)
 (j4<|eC<|.bl false)
 nY)
 (m8 BD (je 5)
 Bu)))
abbrev Ir:Sm:=
 i_ (m8 BB (je 1)
 CK)
 (j4<|eC<|.bl true)
abbrev vV:ae->iH->R A:=lu GA Ir
section
variable {P:ah}{w:af}{K:aA}{mg:Str->bi}{base:au}{f:aq}{fd:FuncData}
def yR:FnScope qx qy (iT qu):=uR rfl rfl rfl ∅
def yO(F:Fun K "is_whole" "is_whole" qu f fd)(j:mg "isinstance" = none)(J:mg "bool" = none)(L:mg "int" = none):FnOk P w K mg base qf 1 f fd qy (qU K 1 mF):=vd (m:=qJ) F yR λg B d s H E hr=>
 iM (jf<|qK (iS Cj j lD<|iF (iA 0)<|iF (CA L OH) iL)<|sY<|OL<|iS Cj j lD<|iF (iA 0)<|iF (CA J JP) iL)
def wM:FnScope pM pD (iT p7):=uR rfl rfl rfl ∅
def xM(F:Fun K "is_letter" "is_letter" p7 f fd)(j:∃t,mg "GREATEST_LETTER" = some (.int 1000000000 t))(J:tB P w K mg base 1 "is_whole" qy mF):FnOk P w K mg base qf 2 f fd pD (qU K 1 kH):=vd (m:=pH) F wM λg B d s H E hr=>
 iM (jf<|qK (Ej J hr<|iA 0)<|sY<|Px xR xR iN (iA 0)<|zh j.choose_spec)
def vB:FnScope n9 om (iT oh):=uR rfl rfl rfl ∅
def vN(F:Fun K "is_letters" "is_letters" oh f fd)(j:mg "all" = none)(J:mg "isinstance" = none)(L:mg "list" = none)(M:tB P w K mg base 2 "is_letter" pD kH):FnOk P w K mg base qf 3 f fd om (qU K 1 kL):=vd (m:=ou) F vB λg B d s H E hr=>
 iM (jf<|qK (iS Cj J lD<|iF (iA 0)<|iF (CA L rL) iL)<|sY<|iS (AM rfl) j xx<|iF (l9 (N:=["part"]) (cap:=[none]) rfl (oZ [] rfl ∅ ∅ ∅ ∅ ∅ (nofun) trivial) (mE<|iA 0) (λ_ _ _ _=>iX (i:=0) (show(["part"]:ar).Nodup by decide +kernel) rfl (Or.inl rfl)<|.inr rfl) (λ_ _ _ _=>kF) λ_ _ _ _=>Ej M hr<|iA 0) iL)
def t_:FnScope mT m5 (iT mD):=uR rfl rfl rfl ∅
def t8(F:Fun K "is_table_row" "is_table_row" mD f fd)(j:mg "sorted" = none)(J:mg "len" = none)(L:tB P w K mg base 3 "is_letters" om kL):FnOk P w K mg base qf 4 f fd m5 (qU K 1 jy):=vd (m:=mR) F t_ λg B d s H E hr=>
 iM (jf<|qK (Ej L hr<|iA 0)<|qK (oN (JG hr.units) (iS kY J jP<|iF (iA 0) iL) iN)<|sY<|oN (Dt hr.units) (iA 0)<|iS Dn j wz<|iF (iA 0) iL)
def vM:FnScope oF n_ (iT oz):=uR rfl rfl rfl ∅
def vI(F:Fun K "fits_under" "fits_under" oz f fd)(J:mg "all" = none)(L:mg "zip" = none)(j:mg "len" = none):FnOk P w K mg base qf 1 f fd n_ (qU K 2 jQ):=vd (m:=oH) F vM λg B d s H E hr=>
 iM (jf<|qK (oN xR (iS kY j jP<|iF (iA 0) iL)<|iS kY j jP<|iF (iA 1) iL)<|sY<|iS (AM rfl) J xx<|iF (l9 (N:=["high", "low"]) (cap:=[none,none]) rfl (oZ [] rfl ∅ ∅ ∅ ∅ ∅ (nofun) trivial) (Oe L (iA 1)<|iA 0) (λ_ _ _ _=>qC rfl<|jG (iX (i:=0) (show(["high", "low"]:ar).Nodup by decide +kernel) rfl (Or.inl rfl)<|.inr rfl)<|jG (iX (i:=1) (show(["high", "low"]:ar).Nodup by decide +kernel) rfl (Or.inl rfl)<|.inr rfl) oE) (λ_ _ _ _=>kF) λ_ _ _ _=>oN (DF hr.units) (iA 0)<|iA 1) iL)
def yH:FnScope qz qQ (iT qD):=uR rfl rfl rfl ∅
def yV(F:Fun K "is_table" "is_table" qD f fd)(j:mg "all" = none)(J:mg "isinstance" = none)(L:mg "list" = none)(M:mg "range" = none)(U:mg "len" = none)(Z:tB P w K mg base 4 "is_table_row" m5 jy)(UE:tB P w K mg base 1 "fits_under" n_ jQ):FnOk P w K mg base qf 5 f fd qQ (qU K 1 k7):=vd (m:=qE) F yH λg B d s H E hr=>
 iJ (l6 (AW.at<|zg (sV<|pK<|iS Cj J lD<|iF (iA 0)<|iF (CA L rL) iL)<|xD<|sV<|pK<|iS (AM rfl) j xx<|iF (l9 (N:=["row"]) (cap:=[none]) rfl (oZ [] rfl ∅ ∅ ∅ ∅ ∅ (nofun) trivial) (mE<|iA 0) (λ_ _ _ _=>iX (i:=0) (show(["row"]:ar).Nodup by decide +kernel) rfl (Or.inl rfl)<|.inr rfl) (λ_ _ _ _=>kF) λ_ _ _ _=>Ej Z hr<|iA 0) iL)
 (iM<|jf tU)
 jL)
 (iM<|jf<|iS (AM rfl) j xx<|iF (l9 (N:=["at", "thing"]) (cap:=[none,some 0]) rfl (oZ ["thing"] rfl ∅ ∅ ∅ ∅ ∅ (eV.mpr ⟨by first|exact Or.inl rfl|exact Or.inr rfl,(nofun)⟩) ⟨rfl,by decide +kernel,trivial⟩) (D5 M iN<|iS kY U jP<|iF (iA 0) iL) (λ_ _ _ _=>iX (i:=0) (show(["at", "thing"]:ar).Nodup by decide +kernel) rfl (Or.inl rfl)<|.inr rfl) (λ_ _ _ _=>kF) λ_ _ _ _=>zN UE hr (jI (iA 1)<|iA 0)<|jI (iA 1)<|jm IX (iA 0) iN) iL)
def lg:FnScope lX lN (iT lU):=uR rfl rfl rfl ∅
def sI(F:Fun K "first_greater" "first_greater" lU f fd)(j:mg "len" = none):FnOk P w K mg base qf 1 f fd lN (qU K 2 jT):=vd (m:=lV) F lg λg B d s H E hr=>
 iJ (jb (i:=2) lg.nd iN)
 (iJ (u9 1000000 b9 (AW.at<|xT (jB (DF hr.units) (iA 2)<|iS kY j jP<|iF (iA 0) iL)<|ud<|jB xR (jI (iA 0)<|iA 2)<|iA 1)
 (iM<|An (i:=2) lg.nd iN BR))
 (iM<|jf<|iA 2))
def jN:FnScope lO l5 (iT lR):=uR rfl rfl rfl ∅
def r8(F:Fun K "put_into_rows" "put_into_rows" lR f fd)(j:mg "len" = none)(J:tB P w K mg base 1 "first_greater" lN jT):FnOk P w K mg base qf 2 f fd l5 (qU K 2 jU):=vd (m:=lZ) F jN λg B d s H E hr=>
 iJ (jb (i:=2) jN.nd iN)
 (iJ (u9 1000000 b9 (jB (DF hr.units) (iA 2)<|iS kY j jP<|iF (iA 0) iL)
 (iJ (jb (i:=3) jN.nd<|zN J hr (jI (iA 0)<|iA 2)<|iA 1)
 (iJ (l6 (jB (Dt hr.units) (iA 3)<|iS kY j jP<|iF (jI (iA 0)<|iA 2) iL)
 (iJ (oA<|u_ cE cF mJ (jI (iA 0)<|iA 2)<|iF (iA 1) iL)
 (iM<|jf<|iA 2))
 jL)
 (iJ (qI (oK<|iF (iA 1)<|iF (jI (jI (iA 0)<|iA 2)<|iA 3) iL)<|qC rfl<|jG (xV (jI (iA 0)<|iA 2)<|iA 3)<|jG (iX (i:=1) jN.nd) oE)
 (iM<|An (i:=2) jN.nd iN BR)))))
 (iJ (oA<|u_ cE cF mJ (iA 0)<|iF (nA<|iF (iA 1) iL) iL)
 (iM<|jf<|iA 2)))
def D_:FnScope uN vc (iT ux):=uR rfl rfl rfl ∅
def El(F:Fun K "copied" "copied" ux f fd)(j:mg "list" = none):FnOk P w K mg base qf 1 f fd vc (qU K 1 pZ):=vd (m:=vf) F D_ λg B d s H E hr=>
 iM (jf<|l9 (N:=["row"]) (cap:=[none]) rfl (oZ [] rfl ∅ ∅ ∅ ∅ ∅ (nofun) trivial) (mE<|iA 0) (λ_ _ _ _=>iX (i:=0) (show(["row"]:ar).Nodup by decide +kernel) rfl (Or.inl rfl)<|.inr rfl) (λ_ _ _ _=>kF) λ_ _ _ _=>p6 (Az rfl) j rL<|iF (iA 0) iL)
def mC:FnScope uE uD (iT u7):=uR rfl rfl rfl ∅
def DR(F:Fun K "tables" "tables" u7 f fd)(j:mg "enumerate" = none)(J:mg "len" = none)(L:tB P w K mg base 2 "put_into_rows" l5 jU):FnOk P w K mg base qf 3 f fd uD (qU K 1 pR):=vd (m:=uI) F mC λg B d s H E hr=>
 iJ (jb (i:=1) mC.nd<|nA iL)
 (iJ (jb (i:=2) mC.nd<|nA iL)
 (iJ (nK b9 rfl (HU j<|iA 0) (qC rfl<|jG (iX (i:=3) mC.nd)<|jG (iX (i:=4) mC.nd) oE)
 (iJ (jb (i:=5) mC.nd<|zN L hr (iA 1)<|iA 4)
 (iJ (l6 (jB (Dt hr.units) (iA 5)<|iS kY J jP<|iF (iA 2) iL)
 (iM<|oA<|u_ cE cF mJ (iA 2)<|iF (nA iL) iL)
 jL)
 (iM<|oA<|u_ cE cF mJ (jI (iA 2)<|iA 5)<|iF (jm oS (iA 3) iN) iL))))
 (iM<|jf<|oK<|iF (iA 1)<|iF (iA 2) iL)))
def Hf:FnScope rQ ur (iT xK):=uR rfl rfl rfl ∅
def HE(F:Fun K "shape" "shape" xK f fd)(j:mg "len" = none):FnOk P w K mg base qf 1 f fd ur (qU K 1 j6):=vd (m:=rR) F Hf λg B d s H E hr=>
 iM (jf<|l9 (N:=["row"]) (cap:=[none]) rfl (oZ [] rfl ∅ ∅ ∅ ∅ ∅ (nofun) trivial) (mE<|iA 0) (λ_ _ _ _=>iX (i:=0) (show(["row"]:ar).Nodup by decide +kernel) rfl (Or.inl rfl)<|.inr rfl) (λ_ _ _ _=>kF) λ_ _ _ _=>iS kY j jP<|iF (iA 0) iL)
def lG:FnScope ki kj (iT kq):=uR rfl rfl rfl ∅
def pL(F:Fun K "is_pair_of_tables" "is_pair_of_tables" kq f fd)(M:mg "sorted" = none)(U:mg "list" = none)(Z:mg "range" = none)(j:mg "len" = none)(UI:∃t,mg "MOST_LETTERS" = some (.int 40 t))(J:tB P w K mg base 1 "shape" ur j6)(L:tB P w K mg base 5 "is_table" qQ k7):FnOk P w K mg base qf 6 f fd kj (qU K 2 ju):=vd (m:=j_) F lG λg B d s H E hr=>
 iJ (l6 (AW.at<|zg (sV<|pK<|Ej L hr<|iA 0)<|zg (sV<|pK<|Ej L hr<|iA 1)<|xD<|jB (IT hr.units) (Ej J hr<|iA 0)<|Ej J hr<|iA 1)
 (iM<|jf tU)
 jL)
 (iJ (jb (i:=2) lG.nd<|iS Dn M wz<|iF (G2 (N:=["row", "number"]) (cap:=[none,none]) rfl (oZ [] rfl ∅ ∅ ∅ ∅ ∅ (nofun) trivial) (mE<|iA 1) (λ_ _ _ _=>iX (i:=0) (show(["row", "number"]:ar).Nodup by decide +kernel) rfl (Or.inl rfl)<|.inr rfl) (λ_ _ _ _=>kF) (λ_ _ _ _=>mE<|iA 0) (λ_ _ _ _=>iX (i:=1) (show(["row", "number"]:ar).Nodup by decide +kernel) rfl (Or.inl rfl)<|.inr rfl) (λ_ _ _ _=>kF) λ_ _ _ _=>iA 1) iL)
 (iM<|jf<|qK (oN xR (iS kY j jP<|iF (iA 2) iL)<|zh UI.choose_spec)<|sY<|oN (Dt hr.units) (iA 2)<|p6 (Az rfl) U rL<|iF (p6 ES Z Ga<|iF iN<|iF (jm oS (iS kY j jP<|iF (iA 2) iL) iN) iL) iL))
def lW:FnScope mZ mW (iT mX):=uR rfl rfl rfl ∅
def tW(F:Fun K "last_smaller" "last_smaller" mX f fd)(j:mg "len" = none):FnOk P w K mg base qf 1 f fd mW (qU K 2 jX):=vd (m:=mP) F lW λg B d s H E hr=>
 iJ (jb (i:=2) lW.nd<|jm IX (iS kY j jP<|iF (iA 0) iL) iN)
 (iJ (u9 1000000 b9 (jB O2 (jI (iA 0)<|iA 2)<|iA 1)
 (iM<|An (i:=2) lW.nd iN KG))
 (iM<|jf<|iA 2))
def lI:FnScope qO qM (iT qF):=uR rfl rfl rfl ∅
def yJ(F:Fun K "take_out" "take_out" qF f fd)(j:mg "range" = none)(J:tB P w K mg base 1 "last_smaller" mW jX):FnOk P w K mg base qf 2 f fd qM (qU K 2 mH):=vd (m:=qN) F lI λg B d s H E hr=>
 iJ (jb (i:=2) lI.nd<|M_ PySem.F.slot_list_pop PySem.F.type_list_pop QG<|jI (iA 0)<|iA 1)
 (iJ (nK b9 rfl (wA j (jm IX (iA 1) iN) (AH iN)<|AH iN) (iX (i:=3) lI.nd)
 (iJ (jb (i:=4) lI.nd<|zN J hr (jI (iA 0)<|iA 3)<|iA 2)
 (iM<|qI (oK<|iF (iA 2)<|iF (jI (jI (iA 0)<|iA 3)<|iA 4) iL)<|qC rfl<|jG (xV (jI (iA 0)<|iA 3)<|iA 4)<|jG (iX (i:=2) lI.nd) oE)))
 (iM<|jf<|iA 2))
def lF:FnScope qv qG (iT qP):=uR rfl rfl rfl ∅
def yb(F:Fun K "row_back" "row_back" qP f fd)(j:mg "enumerate" = none)(J:mg "range" = none)(L:mg "len" = none)(M:tB P w K mg base 6 "is_pair_of_tables" kj ju)(U:tB P w K mg base 1 "copied" vc pZ)(Z:tB P w K mg base 2 "take_out" qM mH):FnOk P w K mg base qf 7 f fd qG (qU K 2 mL):=vd (m:=qS) F lF λg B d s H E hr=>
 iJ (l6 (sV<|pK<|zN M hr (iA 0)<|iA 1)
 (iM<|QL)
 jL)
 (iJ (jb (i:=2) lF.nd<|Ej U hr<|iA 0)
 (iJ (Et (λ_=>Qw) hr.units (i:=3) (N:=["at", "row", "number"]) (cap:=[none,none,none]) lF.nd rfl (oZ [] rfl ∅ ∅ ∅ ∅ ∅ (nofun) trivial) (HU j<|iA 1) (λ_ _ _ _=>qC rfl<|jG (iX (i:=0) (show(["at", "row", "number"]:ar).Nodup by decide +kernel) rfl (Or.inl rfl)<|.inr rfl)<|jG (iX (i:=1) (show(["at", "row", "number"]:ar).Nodup by decide +kernel) rfl (Or.inl rfl)<|.inr rfl) oE) (λ_ _ _ _=>kF) (λ_ _ _ _=>mE<|iA 1) (λ_ _ _ _=>iX (i:=2) (show(["at", "row", "number"]:ar).Nodup by decide +kernel) rfl (Or.inl rfl)<|.inr rfl) (λ_ _ _ _=>kF) (λ_ _ _ _=>iA 2) λ_ _ _ _=>iA 0)
 (iJ (jb (i:=4) lF.nd<|nA iL)
 (iJ (nK b9 rfl (wA J (iS NR L jP<|iF (iA 3) iL) iN<|AH iN) (iX (i:=5) lF.nd)
 (iM<|oA<|u_ cE cF mJ (iA 4)<|iF (zN Z hr (iA 2)<|Nf hr.units (iA 3)<|iA 5) iL))
 (iM<|jf<|N7<|iA 4)))))
def mS:FnScope r_ sM (iT sP):=uR rfl rfl rfl ∅
def zW(F:Fun K "_law_bag" "_law_bag" sP f fd)(j:mg "len" = none):FnOk P w K mg base qf 1 f fd sM (qU K 2 nW):=vd (m:=sG) F mS λg B d s H E hr=>
 iJ (jb (i:=2) mS.nd iN)
 (iJ (l6 (jB (DF hr.units) (iA 1)<|iS kY j jP<|iF (iA 0) iL)
 (iM<|jb (i:=2) mS.nd<|jI (iA 0)<|iA 1)
 jL)
 (iJ (jb (i:=3) mS.nd iN)
 (iJ (l6 (jB O2 (iA 2)<|jm Mn iN iN)
 (iM<|jb (i:=3) mS.nd<|iA 2)
 jL)
 (iM<|jf<|nA<|iF (iA 3)<|iF (jm zH (jm oS (jm oS (iA 2)<|jm EZ iN<|iA 1) iN) iN) iL))))
def qX:FnScope nu pS (iT pC):=uR rfl rfl rfl ∅
def wK(F:Fun K "_law_digit" "_law_digit" pC f fd):FnOk P w K mg base qf 1 f fd pS (qU K 2 jw):=vd (m:=ng) F qX λg B d s H E hr=>
 iJ (l6 (jB (JG hr.units) (jI (iA 0) iN) iN)
 (iJ (jb (i:=2) qX.nd<|jm zH (jI (iA 0) iN)<|iA 1)
 (iJ (qI (jm IF (jI (iA 0) iN)<|iA 1)<|xV (iA 0) iN)
 (iM<|jf<|iA 2)))
 jL)
 (iJ (qI (jm zH (jm oS (jm EZ (jI (iA 0) iN) iN) iN) iN)<|xV (iA 0) iN)
 (iM<|jf<|jm zH (jm zH (jm EZ (jm IF (jI (iA 0) iN) iN) iN) iN)<|iA 1))
def jq:FnScope nL nE (iT nP):=uR rfl rfl rfl ∅
def uY(F:Fun K "_law_letters" "_law_letters" nP f fd)(J:mg "range" = none)(j:tB P w K mg base 1 "_law_digit" pS jw):FnOk P w K mg base qf 2 f fd nE (qU K 2 kr):=vd (m:=nQ) F jq λg B d s H E hr=>
 iJ (jb (i:=2) jq.nd<|zN j hr (iA 0)<|jm oS (iA 1) iN)
 (iJ (jb (i:=3) jq.nd<|zN j hr (iA 0) iN)
 (iJ (jb (i:=4) jq.nd<|jI (nA<|iF iN<|iF iN<|iF (jm Mn iN iN)<|iF iN iL)<|iA 3)
 (iJ (jb (i:=5) jq.nd<|nA iL)
 (iJ (nK b9 rfl (n6 J<|iA 2) (iX (i:=6) jq.nd)
 (iJ (jb (i:=7) jq.nd<|jm oS iN<|zN j hr (iA 0)<|iA 4)
 (iJ (l6 (AW.at<|xT (jB (Dt hr.units) (iA 3) iN)<|ud<|jB (Rn hr.units) (iA 7)<|iA 5)
 (iM<|jb (i:=7) jq.nd<|jm oS iN<|iA 6)
 jL)
 (iM<|oA<|u_ cE cF mJ (iA 5)<|iF (iA 7) iL))))
 (iM<|jf<|iA 5)))))
def jo:FnScope nG nF (iT nN):=uR rfl rfl rfl ∅
def vj(F:Fun K "_law_longest" "_law_longest" nN f fd)(j:mg "range" = none)(L:mg "len" = none)(J:mg "max" = none):FnOk P w K mg base qf 1 f fd nF (qU K 2 jV):=vd (m:=nH) F jo λg B d s H E hr=>
 iJ (jb (i:=2) jo.nd<|nA iL)
 (iJ (nK b9 rfl (n6 j<|iS kY L jP<|iF (iA 0) iL) (iX (i:=3) jo.nd)
 (iJ (jb (i:=4) jo.nd iN)
 (iJ (nK b9 rfl (n6 j<|iA 3) (iX (i:=5) jo.nd)
 (iJ (jb (i:=6) jo.nd<|oN xR (jI (iA 0)<|iA 5)<|jI (iA 0)<|iA 3)
 (iJ (l6 (pK<|iA 1)
 (iM<|jb (i:=6) jo.nd<|oN (JG hr.units) (jI (iA 0)<|iA 5)<|jI (iA 0)<|iA 3)
 jL)
 (iM (l6 (pK<|iA 6)
 (iM<|jb (i:=4) jo.nd<|iS (Iz rfl) J wN<|iF (iA 4)<|iF (jm oS (jI (iA 2)<|iA 5) iN) iL)
 jL)))))
 (iM<|oA<|u_ cE cF mJ (iA 2)<|iF (iA 4) iL))))
 (iM<|jf<|iS (EJ rfl) J wN<|iF (jm oS (nA<|iF iN iL)<|iA 2) iL))
def jY:FnScope sW sD (iT sR):=uR rfl rfl rfl ∅
def Av(F:Fun K "_law_two" "_law_two" sR f fd)(j:mg "dict" = none)(J:mg "max" = none):FnOk P w K mg base qf 1 f fd sD (qU K 1 n5):=vd (m:=sF) F jY λg B d s H E hr=>
 iJ (jb (i:=1) jY.nd<|K7 hr.units (oK<|iF iN<|iF iN iL) iN)
 (iJ (nK b9 rfl (mE<|iA 0) (iX (i:=2) jY.nd)
 (iJ (jb (i:=3) jY.nd<|p6 (KD rfl) j K_<|iF (iA 1) iL)
 (iJ (nK b9 rfl (zA<|iA 1) (qC rfl<|jG (iX (i:=4) jY.nd)<|jG (iX (i:=5) jY.nd) oE)
 (iJ (jb (i:=6) jY.nd<|jm oS (Fy hr.units (iA 1)<|oK<|iF (iA 4)<|iF (iA 5) iL) iN)
 (iJ (l6 (AW.at<|xT (jB xR (iA 4)<|iA 2)<|ud<|jB (DF hr.units) (IB f6 PySem.F.type_dict_get (LG hr.units) (iA 3)<|iF (oK<|iF (iA 2)<|iF (iA 5) iL)<|iF iN iL)<|iA 6)
 (iM<|qI (iA 6)<|B0 hr.units (iA 3)<|oK<|iF (iA 2)<|iF (iA 5) iL)
 jL)
 (iM (l6 (AW.at<|xT (jB xR (iA 5)<|iA 2)<|ud<|jB (DF hr.units) (IB f6 PySem.F.type_dict_get (LG hr.units) (iA 3)<|iF (oK<|iF (iA 4)<|iF (iA 2) iL)<|iF iN iL)<|iA 6)
 (iM<|qI (iA 6)<|B0 hr.units (iA 3)<|oK<|iF (iA 4)<|iF (iA 2) iL)
 jL)))))
 (iM<|jb (i:=1) jY.nd<|iA 3))))
 (iM<|jf<|iS (EJ rfl) J wN<|iF (l9 (N:=["_law_some", "_law_held"]) (cap:=[none,some 1]) rfl (oZ ["_law_held"] rfl ∅ ∅ ∅ ∅ ∅ (eV.mpr ⟨by first|exact Or.inl rfl|exact Or.inr rfl,(nofun)⟩) ⟨rfl,by decide +kernel,trivial⟩) (zA<|iA 1) (λ_ _ _ _=>iX (i:=0) (show(["_law_some", "_law_held"]:ar).Nodup by decide +kernel) rfl (Or.inl rfl)<|.inr rfl) (λ_ _ _ _=>kF) λ_ _ _ _=>Fy hr.units (iA 1)<|iA 0) iL))
def uW:FnScope tw sq (iT sQ):=uR rfl rfl rfl ∅
def zR(F:Fun K "_law_cut" "_law_cut" sQ f fd)(j:mg "len" = none):FnOk P w K mg base qf 1 f fd sq (qU K 2 nU):=vd (m:=sZ) F uW λg B d s H E hr=>
 iJ (K2 (i:=2) (N:=["_law_row", "_law_many"]) (cap:=[none,some 1]) uW.nd rfl (oZ ["_law_many"] rfl ∅ ∅ ∅ ∅ ∅ (eV.mpr ⟨by first|exact Or.inl rfl|exact Or.inr rfl,(nofun)⟩) ⟨rfl,by decide +kernel,trivial⟩) (mE<|iA 0) (λ_ _ _ _=>iX (i:=0) (show(["_law_row", "_law_many"]:ar).Nodup by decide +kernel) rfl (Or.inl rfl)<|.inr rfl) (λ_ _ _ _=>kF) λ_ _ _ _=>iS kY j jP<|iF (l9 (N:=["_law_number", "_law_many"]) (cap:=[none,some 1]) rfl (oZ ["_law_many"] rfl ∅ ∅ ∅ ∅ ∅ (eV.mpr ⟨by first|exact Or.inl rfl|exact Or.inr rfl,(nofun)⟩) ⟨rfl,by decide +kernel,trivial⟩) (mE<|iA 0) (λ_ _ _ _=>iX (i:=0) (show(["_law_number", "_law_many"]:ar).Nodup by decide +kernel) rfl (Or.inl rfl)<|.inr rfl) (λ_ _ _ _=>A5<|jB xR (iA 0)<|iA 1) λ_ _ _ _=>iA 0) iL)
 (iM<|jf<|l9 (N:=["_law_one"]) (cap:=[none]) rfl (oZ [] rfl ∅ ∅ ∅ ∅ ∅ (nofun) trivial) (mE<|iA 2) (λ_ _ _ _=>iX (i:=0) (show(["_law_one"]:ar).Nodup by decide +kernel) rfl (Or.inl rfl)<|.inr rfl) (λ_ _ _ _=>A5<|jB (JG hr.units) (iA 0) iN) λ_ _ _ _=>iA 0)
def pU:FnScope ko kg (iT kc):=uR rfl rfl rfl ∅
def pP(F:Fun K "_law_lengths_right" "_law_lengths_right" kc f fd)(L:mg "len" = none)(j:mg "sum" = none)(J:tB P w K mg base 1 "_law_longest" nF jV)(M:tB P w K mg base 1 "_law_two" sD n5):FnOk P w K mg base qf 2 f fd kg (qU K 2 jt):=vd (m:=kh) F pU λg B d s H E hr=>
 iJ (l6 (AW.at<|zg (jB (IT hr.units) (iS (Lm rfl) j EY<|iF (I_ (iA 1) wX<|xE iN) iL)<|zN J hr (iA 0) tU)<|xD<|jB (IT hr.units) (iS kY L jP<|iF (iA 1) iL)<|zN J hr (iA 0) tU)
 (iM<|jf tU)
 jL)
 (iM<|jf<|oN (Dt hr.units) (iS (Lm rfl) j EY<|iF (I_ (iA 1) wX<|xE iN) iL)<|Ej M hr<|iA 0)
def su:FnScope GA L6 (iT HK):=uR rfl rfl rfl ∅
set_option smartUnfolding false in
theorem MZ(F:Fun K "law" "law" HK f fd)(j:mg "range" = none)(M:mg "max" = none)(U:mg "min" = none)(J:mg "len" = none)(Z:mg "list" = none)(UQ:tB P w K mg base 2 "_law_letters" nE kr)(UR:tB P w K mg base 1 "_law_bag" sM nW)(US:tB P w K mg base 3 "tables" uD pR)(UT:tB P w K mg base 7 "row_back" qG mL)(L:tB P w K mg base 1 "shape" ur j6)(UU:tB P w K mg base 2 "_law_lengths_right" kg jt)(UW:tB P w K mg base 1 "_law_cut" sq nU):FnOk P w K mg base qf 8 f fd L6 (qU K 1 vV):=vd (m:=Ir) F su λg B d s H E hr=>
 iJ (nK b9 rfl (n6 j<|iS (Iz rfl) M wN<|iF iN<|iF (iS (MQ rfl) U NJ<|iF (iS kY J jP<|iF (iA 0) iL)<|iF iN iL) iL) (iX (i:=1) su.nd)
 (iJ (jb (i:=2) su.nd<|zN UQ hr (zN UR hr (iA 0)<|iA 1) iN)
 (iJ (qI (Ej US hr<|p6 (Az rfl) Z rL<|iF (iA 2) iL)<|qC rfl<|jG (iX (i:=3) su.nd)<|jG (iX (i:=4) su.nd) oE)
 (iJ (l6 (AW.at<|zg (jB (IT hr.units) (Ej L hr<|iA 3)<|Ej L hr<|iA 4)<|xD<|jB (IT hr.units) (zN UT hr (iA 3)<|iA 4)<|iA 2)
 (iM<|jf tU)
 jL)
 (iM (nK b9 rfl (n6 j<|jm oS (iS kY J jP<|iF (iA 2) iL) iN) (iX (i:=5) su.nd)
 (iM (l6 (sV<|pK<|zN UU hr (I_ (iA 2) wX<|xE<|iA 5)<|zN UW hr (iA 4)<|iA 5)
 (iM<|jf tU)
 jL))))))))
 (iM<|jf tU)
end
end K63
namespace Bl
open L2
end Bl
namespace Am
open PySem L2 Bl
theorem uO:∀{ns:ag},ns≠[]->∃m,maxOf ns=some m
 | [],h=>absurd rfl h
 | [x],_=>⟨x,rfl⟩
 | x::y::ys,_=>by
  obtain⟨m,e⟩:=uO (ns:=y::ys) (by simp);exact⟨if m>x then m else x,by show(maxOf (y::ys)).map _=_;rw[e];rfl⟩
def yE{n:Nat}{ns:ag}(h:iC S n=some (ns.map .int))(h0:ns≠[]):∃m,Bg (.ref n) S=.ok (.int m) S/\m∈ns/\∀a∈ns,a<=m:=by
 obtain⟨m,e⟩:=uO h0;refine⟨m,?_,uZ e⟩;show opt (iC S n) _=_;rw[h,iU,ints_map,iU,e,iU]
end Am
namespace Tb
abbrev fg (r:ag)(x:Int):Nat:=r.findIdx λy=>decide<|x<y
def B8(r:ag)(x:Int):fg r x<=r.length:=fU
def vg{r:ag}{x:Int}(h:fg r x≠r.length):fg r x<r.length:=Nat.lt_of_le_of_ne (B8 r x) h
abbrev put:List (ag)->Int->List (ag)
 | [],x=>[[x]]
 | r::rs,x=>if fg r x=r.length then(r++[x])::rs else r.set (fg r x) x::put rs (r.getD (fg r x) 0)
abbrev row:List (ag)->Int->Nat
 | [],_=>0
 | r::rs,x=>if fg r x=r.length then 0 else row rs (r.getD (fg r x) 0)+1
def kJ{r:ag}{x:Int}(h:fg r x=r.length):put (r::rs) x=(r++[x])::rs:=aS h
def mV{r:ag}{x:Int}(h:fg r x≠r.length):put (r::rs) x=r.set (fg r x) x::put rs (r.getD (fg r x) 0):=aU h
def qa{r:ag}{x:Int}(h:fg r x=r.length):row (r::rs) x=0:=aS h
def sO{r:ag}{x:Int}(h:fg r x≠r.length):row (r::rs) x=row rs (r.getD (fg r x) 0)+1:=aU h
theorem IA:∀(T:List<|ag) (x:Int),row T x<=T.length
 | [],_=>aO _
 | r::rs,x=>by
  by_cases h:fg r x=r.length
  ·rw[qa h];exact bL _
  ·rw[sO h,bw];exact d_<|IA rs _
abbrev bump:am->Nat->am
 | [],_=>[1]
 | n::ns,0=>(n+1)::ns
 | n::ns,i+1=>n::bump ns i
theorem mw:∀(T:List<|ag) (x:Int),(put T x).map List.length=bump (T.map List.length) (row T x)
 | [],_=>rfl
 | r::rs,x=>by
  by_cases h:fg r x=r.length
  ·rw[kJ h,qa h,bD,bD,aV];rfl
  ·rw[mV h,sO h,bD,bD,bH,mw rs];rfl
theorem zm:∀(ns:am) (i:Nat),(bump ns i).sum=ns.sum+1
 | [],_=>rfl
 | n::ns,0=>by simp[bump];lia
 | n::ns,i+1=>by simp[bump,zm ns i];lia
def pO(T:List<|ag)(j:Nat):(T.map List.length).getD j 0=(T.getD j []).length:=by
 rw[aI,aI,aY]
 cases T[j]?<;>rfl
def JZ(T:List<|ag)(x:Int):((put T x).map List.length).sum=(T.map List.length).sum+1:=by
 rw[mw,zm]
abbrev add:List (ag)->Nat->Int->List (ag)
 | [],_,k=>[[k]]
 | q::qs,0,k=>(q++[k])::qs
 | q::qs,i+1,k=>q::add qs i k
theorem sC:∀(Q:List<|ag) (i:Nat) (k:Int),(add Q i k).map List.length=bump (Q.map List.length) i
 | [],_,_=>rfl
 | q::qs,0,k=>by simp[add,bump]
 | q::qs,i+1,k=>by simp[add,bump,sC qs i k]
theorem BE:∀(Q:List<|ag) (k:Int),add Q Q.length k=Q++[[k]]
 | [],_=>rfl
 | q::qs,k=>by show q::add qs qs.length k=_;rw[BE qs k];rfl
theorem HX:∀(Q:List<|ag) (i:Nat) (k:Int),i<Q.length->add Q i k=Q.set i (Q.getD i []++[k])
 | [],_,_,h=>absurd h (cL _)
 | q::qs,0,k,_=>rfl
 | q::qs,i+1,k,h=>by show q::add qs i k=_;rw[HX qs i k<|Nat.lt_of_succ_lt_succ h];rfl
abbrev tabs (xs:ag):Nat->List (ag)×List (ag)
 | 0=>([],[])
 | i+1=>(put (tabs xs i).1<|xs.getD i 0,add (tabs xs i).2 (row (tabs xs i).1<|xs.getD i 0)<|(i:Int)+1)
theorem jH(xs:ag):∀i,(tabs xs i).2.map List.length=(tabs xs i).1.map List.length
 | 0=>rfl
 | i+1=>by
  show(add _ _ _).map List.length=(put _ _).map List.length;rw[sC,mw,jH xs i]
def Gm(xs:ag)(i:Nat):(tabs xs i).2.length=(tabs xs i).1.length:=by
 have:=cA List.length<|jH xs i;simpa using this
theorem uU(xs:ag):∀i,((tabs xs i).1.map List.length).sum=i
 | 0=>rfl
 | i+1=>by
  show((put _ _).map List.length).sum=_;rw[JZ,uU xs i]
theorem qw:∀{ns:am},(∀n∈ns,0<n)->ns.length<=ns.sum
 | [],_=>aO _
 | n::ns,h=>by
  have h1:=h n<|aM ..;have h2:=qw λm hm=>h m<|aK _ hm;rw[bw,dW];lia
theorem sU:∀(ns:am) (j:Nat),ns.getD j 0<=ns.sum
 | [],j=>by simp
 | n::ns,0=>by simp
 | n::ns,j+1=>by have:=sU ns j;rw[dW];dsimp[List.getD_cons_succ];lia
theorem zw:∀{ns:am}{i:Nat},(∀n∈ns,0<n)->∀n∈bump ns i,0<n
 | [],_,_,n,h=>by simp[bump]at h;lia
 | m::ns,0,hp,n,h=>by
  rcases a_.mp h with z|z
  ·lia
  ·exact hp n<|aK _ z
 | m::ns,i+1,hp,n,h=>by
  rcases a_.mp h with z|z
  ·rw[z];exact hp m (aM ..)
  ·exact zw (λk d=>hp k<|aK _ d) n z
theorem ve(xs:ag):∀i,∀n∈(tabs xs i).1.map List.length,0<n
 | 0=>λn h=>by cases h
 | i+1=>by
  show ∀n∈(put _ _).map List.length,0<n;rw[mw];exact zw<|ve xs i
def uT(xs:ag)(i:Nat):(tabs xs i).1.length<=i/\∀j,((tabs xs i).1.getD j []).length<=i:=by
 refine⟨?_,λj=>?_⟩
 ·have:=qw<|ve xs i;rw[uU,aN]at this;exact this
 ·have:=sU ((tabs xs i).1.map List.length) j;rw[pO,uU]at this;exact this
abbrev gs (r:ag)(x:Int):am:=(List.range r.length).filter λk=>decide<|x<r.getD k 0
end Tb
namespace Am
open PySem L2
abbrev Rows (S:iH):am->List (ag)->Prop
 | [],[]=>True
 | r::rs,x::T=>iC S r=some (x.map .int)/\Rows S rs T
 | _,_=>False
theorem Rows.len:∀{rs:am}{T:List<|ag},Rows S rs T->rs.length=T.length
 | [],[],_=>rfl
 | _::_,_::_,h=>cA (·+1) (Rows.len h.2)
 | [],_::_,h=>h.elim
 | _::_,[],h=>h.elim
theorem Rows.get:∀{rs:am}{T:List<|ag}{i:Nat}{r:Nat},Rows S rs T->rs[i]?=some r->i<T.length/\iC S r=some ((T.getD i []).map .int)
 | [],[],_,_,_,e=>by simp at e
 | r::rs,x::T,0,_,h,e=>by simp at e;subst e;exact⟨Nat.zero_lt_succ _,h.1⟩
 | r::rs,x::T,i+1,q,h,e=>by
  obtain⟨h1,h2⟩:=Rows.get (i:=i) (r:=q) h.2 (by simpa using e);exact⟨gg h1,by simpa using h2⟩
 | [],_::_,_,_,h,_=>h.elim
 | _::_,[],_,_,h,_=>h.elim
theorem Rows.mono:∀{rs:am}{T:List<|ag},Rows S rs T->(∀r∈rs,∀xs,iC S r=some xs->iC S' r=some xs)->Rows S' rs T
 | [],[],_,_=>trivial
 | r::rs,x::T,h,k=>⟨k r (aM ..) _ h.1,Rows.mono h.2 λq d=>k q<|aK _ d⟩
 | [],_::_,h,_=>h.elim
 | _::_,[],h,_=>h.elim
theorem Rows.mk:∀{rs:am}{T:List<|ag},rs.length=T.length->(∀i,i<T.length->iC S (rs.getD i 0)=some ((T.getD i []).map .int))->Rows S rs T
 | [],[],_,_=>trivial
 | r::rs,x::T,hl,h=>⟨h 0<|Nat.zero_lt_succ _,Rows.mk (by simpa using hl) λi hi=>by have:=h (i+1)<|gg hi;simpa using this⟩
 | [],_::_,h,_=>by simp at h
 | _::_,[],h,_=>by simp at h
theorem Rows.set{S:iH}{ys:ag}:∀{rs:am}{T:List<|ag}{i:Nat}{r:Nat},Rows S rs T->rs.Nodup->rs[i]?=some r->Rows (S.set r<|.lst<|ys.map .int) rs (T.set i ys)
 | [],[],_,_,_,_,e=>by simp at e
 | r::rs,x::T,0,q,h,nd,e=>by
  simp at e;subst e;refine⟨oM<|mO h.1,Rows.mono h.2 λq f xs e=>?_⟩;rw[k9<|show r≠q from λz=>(bP.mp nd).1<|by rw[z];exact f];exact e
 | r::rs,x::T,i+1,q,h,nd,e=>by
  have d:rs[i]?=some q:=by simpa using e
  refine⟨?_,Rows.set h.2 (bP.mp nd).2 d⟩;rw[k9<|show q≠r from λz=>(bP.mp nd).1<|by rw[<- z];exact bz d];exact h.1
 | [],_::_,_,_,h,_,_=>h.elim
 | _::_,[],_,_,h,_,_=>h.elim
theorem Rows.app:∀{rs rs':am}{T T':List<|ag},Rows S rs T->Rows S rs' T'->Rows S (rs++rs') (T++T')
 | [],_,[],_,_,h=>h
 | r::rs,_,x::T,_,h,h'=>⟨h.1,Rows.app h.2 h'⟩
 | [],_,_::_,_,h,_=>h.elim
 | _::_,_,[],_,h,_=>h.elim
structure Tab (S:iH)(n:Nat)(rs:am)(T:List (ag)):Prop where
 top:iC S n=some (rs.map .ref)
 rows:Rows S rs T
 nd:(n::rs).Nodup
def Tab.len{n:Nat}{j:am}{T:List<|ag}(h:Tab S n j T):j.length=T.length:=h.rows.len
def Tab.kp{n:Nat}{c:Nat->Prop}(h:Tab S n rs T)(k:Kp c S S')(hc:∀r∈n::rs,¬c r):Tab S' n rs T:=
 ⟨k.lst _ _ (hc n<|aM ..) h.top,h.rows.mono λr hr xs e=>k.lst r xs (hc r<|aK _ hr) e,h.nd⟩
def Tab.wR{n:Nat}(h:Tab S n rs T)(k:mQ S S'):Tab S' n rs T:=h.kp k λ_ _ z=>z
def Rows.lt{S:iH}{j:am}(h:Rows S j T):∀r∈j,r<S.length:=λr hr=>by
 obtain⟨i,hi,e⟩:=dN.mp hr;exact mO (h.get<|by rw[aH hi,e]).2
def Tab.lt{S:iH}{n:Nat}(h:Tab S n rs T):∀r∈n::rs,r<S.length:=λr hr=>by
 rcases a_.mp hr with z|z
 ·rw[z];exact mO h.top
 ·exact h.rows.lt r z
def Tab.set{S:iH}{n:Nat}{T:List<|ag}{i r:Nat}{ys:ag}(h:Tab S n rs T)(hi:rs[i]?=some r):Tab (S.set r<|.lst<|ys.map .int) n rs (T.set i ys):=
 ⟨by rw[k9<|show r≠n from λz=>(bP.mp h.nd).1<|by rw[<- z];exact bz hi];exact h.top,h.rows.set (bP.mp h.nd).2 hi,h.nd⟩
def Tab.push{S:iH}{n:Nat}{ys:ag}(h:Tab S n rs T):Tab ((S++[O.lst<|ys.map .int]).set n<|.lst<|(rs++[S.length]).map .ref) n (rs++[S.length]) (T++[ys]):=by
 have hn:n<S.length:=h.lt n<|aM ..;have d:∀r∈rs,n≠r:=λr hr z=>(bP.mp h.nd).1<|z ▸ hr;refine⟨oM<|by rw[aV];simp;lia,Rows.app (h.rows.mono λr hr xs e=>?_) ⟨?_,trivial⟩,?_⟩
 ·rw[k9<|d r hr];exact lC e
 ·rw[k9 ()];exact iW
 ·rw[bP,cK];refine⟨λz=>?_,(bP.mp h.nd).2,by simp,λa f b hb z=>?_⟩
  ·rcases bA.mp z with z|z
   ·exact d n z rfl
   ·have:n=S.length:=by simpa using z
    lia
  ·have g:b=S.length:=by simpa using hb
   have:=h.rows.lt a f
   lia
def Tab.nil{n:Nat}(h:iC S n=some []):Tab S n [] []:=⟨h,trivial,by simp⟩
theorem Bo{s:Src}{g:Tg}{e:Ex}{T:ae->Prop}(P:Nat->iH->Prop)(it:Nat->A)(f:Nat->A)
  (J:∀i S,i<s.k->P i S->s.get i S=some (it i)) (L:∀S,P s.k S->s.fin S=true)
  (step:∀i τ S,i<s.k->T τ->P i S->∃τ1 S1 S3,g (it i) τ S=.ok τ1 S1/\T τ1/\e τ1 S1=.ok (f i) S3/\P (i+1) S3) :
  ∀k i τ S,k+i=s.k->T τ->P i S->∃S',jS s g jK e k i τ S=.ok ((List.range' i k).map f) S'/\P s.k S'
 | 0,i,τ,S,hk,hT,hP=>by
  have:i=s.k:=()
  subst this;exact⟨S,by unfold jS;rw[aS<|L S hP];rfl,hP⟩
 | k+1,i,τ,S,hk,hT,hP=>by
  obtain⟨τ1,S1,S3,hg,d,m,j⟩:=step i τ S () hT hP;obtain⟨S',h1,h2⟩:=Bo P it f J L step k (i+1) τ1 S3 () d j;refine⟨S',?_,h2⟩;unfold jS;rw[J i S () hP,iU,hg,R.jc];show(e τ1 S1).jh _=_;rw[m,R.jc,h1];rfl
def DC{src:Ic}{S:iH}{n:Nat}{J:am}{T:List<|ag}(h:Tab S n J T)(hs:src τ S=.ok (jd n (J.map A.ref).length) S)(L:T.length<=16777216) :
  ∃(qs:am) (m:Nat) (S':iH),jE (none::cap) src (je 0) jK (iY (f1 pB)<|iD (iB 0) iO) τ S=.ok (.ref m) S'/\Tab S' m qs T/\mQ S S'/\∀r∈m::qs,S.length<=r:=by
 have f:=h.len;rw[aN]at hs;obtain⟨S',h1,h2,F,C⟩:=Bo (s:=jd n J.length) (g:=je 0) (e:=iY (f1 pB)<|iD (iB 0) iO) (T:=λt=>∃y,t=y::lH cap τ)
  (λi S1=>mQ S S1/\S1.length=S.length+i/\∀j,j<i->iC S1 (S.length+j)=some ((T.getD j []).map .int)) (λi=>.ref<|J.getD i 0) (λi=>.ref<|S.length+i)
  (λi S1 hi h9=>by
   obtain⟨k,_,_⟩:=h9;have hi:i<J.length:=hi;show(iC S1 n).bind _=_;rw[k.lst n _ (λz=>z) h.top,cG,aY,aH hi,aI,aH hi];rfl)
  (λS1 h9=>by
   obtain⟨k,_,_⟩:=h9;show(match iC S1 n with
    | some ys=>decide (ys.length<=J.length)
    | none=>false)=true
   rw[k.lst n _ (λz=>z) h.top];simp)
  (λi t S1 hi ⟨y,hy⟩ ⟨k,d,hr⟩=>by
   have hi:i<J.length:=hi;subst hy;have e1:iC S1 (J.getD i 0)=some ((T.getD i []).map .int):=k.lst _ _ (λz=>z) (h.rows.get<|by rw[aI,aH hi];rfl).2;refine⟨.ref (J.getD i 0)::lH cap τ,S1,S1++[.lst<|(T.getD i []).map .int],rfl,⟨_,rfl⟩,?_,k.lay,by rw[aV,d];rfl,λj B=>?_⟩
   ·dsimp[i8,bools,e1,<- d]
   ·by_cases z:j<i
    ·exact lC (hr j z)
    ·have:j=i:=()
     subst this;rw[<- d];exact iW)
  J.length 0 (lH (none::cap) τ) S rfl ⟨_,rfl⟩ ⟨Kp.refl,rfl,λj B=>absurd B<|cL _⟩
 have F:S'.length=S.length+J.length:=F;have C:∀j,j<J.length->iC S' (S.length+j)=some ((T.getD j []).map .int):=C;refine⟨(List.range' 0 J.length).map (S.length+·),S'.length,S'++[.lst<|((List.range' 0 J.length).map (S.length+·)).map .ref],?_,⟨iW,Rows.mk (by simp[f]) λi hi=>?_,?_⟩,h2.lay,λr hr=>?_⟩
 ·unfold jE;rw[hs,R.jR];show R.jh (jS (jd n J.length) (je 0) jK _ J.length 0 (lH (none::cap) τ) S) _=_;rw[h1,R.jc,jv<|by simp;lia,bM];rfl
 ·refine lC ?_;have:((List.range' 0 J.length).map (S.length+·)).getD i 0=S.length+i:=by
   rw[aI,aY,List.getElem?_range' ()];simp
  rw[this];exact C i ()
 ·rw[bP];refine⟨λz=>?_,?_⟩
  ·obtain⟨j,B,e⟩:=bK.mp z;have:=List.mem_range'.mp B
   lia
  ·rw[List.nodup_iff_pairwise_ne,eS];exact(List.nodup_range' (step:=1)).imp λh z=>h ()
 ·rcases a_.mp hr with z|z
  ·rw[z];lia
  ·obtain⟨j,B,e⟩:=bK.mp z
   lia
def uF{n:Nat}:(List.range n).filter (λ_=>true)=List.range n:=cR.mpr λ_ _=>rfl
def sH{src:Ic}{S:iH}{n:Nat}{j:am}{T:List<|ag}(h:Tab S n j T)(hs:src τ S=.ok (jd n (j.map A.ref).length) S)(J:T.length<=1000000) :
  jE (none::cap) src (je 0) jK (iY (f1 kX)<|iD (iB 0) iO) τ S=.ok (.ref S.length) (S++[.lst<|(T.map λr=>(r.length:Int)).map .int]):=by
 have d:=h.len;rw[aN]at hs;rw[tD (s:=jd n j.length) hs (λi=>.ref<|j.getD i 0) (λ_=>true) (λi=>.int ((T.getD i []).length:Int)) (λi hi=>by
   have hi:i<j.length:=hi;show(iC S n).bind _=_;rw[h.top,cG,aY,aH hi,aI,aH hi];rfl) (by
   show(match iC S n with
    | some ys=>decide (ys.length<=j.length)
    | none=>false)=true
   rw[h.top];simp) (λ_ _=>rfl) (λi hi _=>by
   have hi:i<j.length:=hi;have e1:iC S (j.getD i 0)=some ((T.getD i []).map .int):=(h.rows.get<|by rw[aI,aH hi];rfl).2;dsimp[i8,bools,e1,aN])<|by show j.length<=_;lia]
 show R.ok (A.ref S.length) (S++[O.lst<|List.map _<|List.filter (λ_=>true)<|List.range j.length])=_;have f:(List.range j.length).map (λi=>A.int ((T.getD i []).length:Int))=(T.map λr=>(r.length:Int)).map .int:=by
  rw[d,bM];refine List.ext_getElem (by rw[aN,aN,gV]) λi h1 h2=>?_;have hi:i<T.length:=by rw[aN]at h2;exact h2
  rw[List.getElem_map,List.getElem_map,List.getElem_range,aI,aH hi];rfl
 rw[uF,<- f]
def zb{a:Nat}{xs ys:ag}(h:iC S a=some (xs.map .int))(h':iC S b=some (ys.map .int)):v_ S 12 (.ref a) (.ref b)=some (decide<|xs=ys):=by
 show(iC S a).bind (λxs=>(iC S b).bind λys=>vn (v_ S 11) xs ys)=_;rw[h,cG,h',cG];exact wF xs ys
def zX{a:A}{k:Bool}(h:v_ S 12 a b=some k):uv false a b S=.ok (.bl k) S:=by unfold uv;rw[h];rfl
def xh{a:A}{k:Bool}(h:v_ S 12 a b=some k):uv true a b S=.ok (.bl<|!k) S:=by unfold uv;rw[h];rfl
def uG{xs:ae}{n:Nat}{src:Ic}{t:Te}{e:Ex}{S:iH}(hs:src τ S=.ok (jd n xs.length) S)(hx:iC S n=some xs)(p:A->Bool)(f:A->A)
  (j:∀x∈xs,t (x::lH cap τ) S=.ok (p x) S) (J:∀x∈xs,p x=true->e (x::lH cap τ) S=.ok (f x) S) (L:xs.length<=16777216) :
  jE (none::cap) src (je 0) t e τ S=.ok (.ref S.length) (S++[.lst<|(xs.filter p).map f]):=by
 have hm:∀i,i<xs.length->xs.getD i .unb∈xs:=λi hi=>by
  rw[aI,aH hi];exact cU hi
 rw[tD hs (λi=>xs.getD i .unb) (λi=>p<|xs.getD i .unb) (λi=>f<|xs.getD i .unb) (λi hi=>by
  have hi:i<xs.length:=hi;show(iC S n).bind _=_;rw[hx,cG,aI,aH hi];rfl) (by
   show(match iC S n with
    | some ys=>decide (ys.length<=xs.length)
    | none=>false)=true
   rw[hx];simp) (λi hi=>j _<|hm i hi) (λi hi=>J _<|hm i hi) L]
 have:=nV xs p f .unb;show R.ok _ (S++[O.lst<|((List.range xs.length).filter _).map _])=_;rw[this]
def getD_at{r:ag}{k:Nat}(h:k<r.length):r[k]?=some (r.getD k 0):=by rw[aI,aH h];rfl
def zS{r:ag}{i:Int}{k:Nat}(h:i=k)(j:k<r.length):oY (r.map A.int) i=some (.int<|r.getD k 0):=uc h<|getD_at j
theorem Bh:∀(bs:List Bool),A.J5 (bs.map .bl)=some bs
 | []=>rfl
 | b::bs=>by show(A.J5<|bs.map .bl).map (b::·)=_;rw[Bh bs];rfl
end Am
namespace Sy
open Tb
abbrev vK (r:ag):Prop:=r.Pairwise (·<=·)
abbrev Fits (u r:ag):Prop:=u.length<=r.length/\∀(j:Nat) (x y:Int),r[j]?=some x->u[j]?=some y->x<y
abbrev jM:List (ag)->Prop
 | []=>True
 | r::T=>r≠[]/\vK r/\(∀u,T.head?=some u->Fits u r)/\jM T
def nR{r:ag}{x:Int}{j:Nat}{y:Int}(h:j<fg r x)(hy:r[j]?=some y):y<=x:=by
 obtain⟨d,e⟩:=aL.mp hy;have:=eG (xs:=r) (p:=λy=>decide<|x<y) (i:=j) h;rw[<- e];simpa using this
def yU{r:ag}{x y:Int}(hy:r[fg r x]?=some y):x<y:=by
 obtain⟨d,e⟩:=aL.mp hy;have:=dQ (xs:=r) (p:=λy=>decide<|x<y) (w:=d);rw[<- e];exact dO this
def Ig{r:ag}{x y:Int}{p:Nat}(hy:r[p]?=some y)(h:x<y):fg r x<=p:=by
 rcases dR p (fg r x)with z|z
 ·exact absurd (nR z hy) ()
 ·exact z
abbrev hd (T:List<|ag)(y:Int):ag:=match T with
 | []=>[y]
 | u::_=>if fg u y=u.length then u++[y]else u.set (fg u y) y
def IS(T:List<|ag)(y:Int):(put T y).head?=some (hd T y):=by
 cases T with
 | nil=>rfl
 | cons u T=>
  by_cases h:fg u y=u.length
  ·rw[kJ h];show _=some (if _ then _ else _);rw[aS h];rfl
  ·rw[mV h];show _=some (if _ then _ else _);rw[aU h];rfl
def HC{r:ag}{T:List<|ag}{p:Nat}{x y:Int}(hp:r[p]?=some y)(J:x<y)(hb:∀j z,j<p->r[j]?=some z->z<=x)(hf:∀u,T.head?=some u->Fits u r):Fits (hd T y) (r.set p x):=by
 obtain⟨k,B⟩:=aL.mp hp;have f:∀(q:Nat) (z:Int),q<=p->(r.set p x)[q]?=some z->z<y:=λq z F d=>by
  rw[fV]at d;by_cases e:p=q
  ·rw[aS e,aS k]at d;have:=aW d;lia
  ·rw[aU e]at d;have:=hb q z () d;lia
 cases T with
 | nil=>
  refine⟨by rw[bH];show 1<=_;lia,λj z w d hw=>?_⟩;have hw:([y]:ag)[j]?=some w:=hw
  cases j with
  | zero=>have:=aW hw;have:=f 0 z (bL _) d;lia
  | succ j=>simp at hw
 | cons u T=>
  obtain⟨C,hc⟩:=hf u rfl;have t:fg u y<=p:=by
   rcases dR p u.length with z|z
   ·have m:=aH z;exact Ig m (hc p y _ hp m)
   ·exact bC (B8 u y) z
  have g:∀(j:Nat) (z w:Int),(r.set p x)[j]?=some z->u[j]?=some w->z<w:=λj z w d hw=>by
   rw[fV]at d;by_cases e:p=j
   ·rw[aS e,aS k]at d;have:=aW d;have:=hc p y w hp (by rw[e];exact hw)
    lia
   ·rw[aU e]at d;exact hc j z w d hw
  show Fits (if fg u y=u.length then u++[y]else u.set (fg u y) y) (r.set p x);by_cases h:fg u y=u.length
  ·rw[aS h];refine⟨by rw[bH,aV];show u.length+1<=_;lia,λj z w d hw=>?_⟩
   rcases dR j u.length with q|q
   ·rw[aR q]at hw;exact g j z w d hw
   ·rw[bX q]at hw;have e:j-u.length=0:=by
     rcases Nat.eq_zero_or_pos (j-u.length)with z|z
     ·exact z
     ·rw[f9<|by show([y]:ag).length<=_;exact z]at hw;cases hw
    rw[e]at hw;have:=aW hw;have:=f j z () d
    lia
  ·rw[aU h];refine⟨by rw[bH,bH];exact C,λj z w d hw=>?_⟩;rw[fV]at hw;by_cases e:fg u y=j
   ·rw[aS e,aS<|vg h]at hw;have:=aW hw;have:=f j z () d
    lia
   ·rw[aU e]at hw;exact g j z w d hw
def yp{r:ag}{x:Int}(h:vK r)(hx:∀y∈r,y<=x):vK (r++[x]):=by
 unfold vK;rw[cy];exact⟨h,by simp,λa d b hb=>by rw[bf.mp hb];exact hx a d⟩
def KL{r:ag}{x:Int}(h:fg r x=r.length):∀y∈r,y<=x:=λy hy=>by
 obtain⟨j,d,e⟩:=dN.mp hy;exact nR (r:=r) (j:=j) ()<|by rw[aH d,e]
def K9{r:ag}{x:Int}(h:vK r)(hf:fg r x≠r.length):vK (r.set (fg r x) x):=by
 have d:=vg hf;have k:=yU<|aH d;unfold vK at h ⊢;rw[eX]at h ⊢;intro i j hi f g;rw[bH]at hi f;rw[List.getElem_set,List.getElem_set];by_cases e1:fg r x=i
 ·rw[aS e1,aU ()];have:=h (fg r x) j d f ()
  lia
 ·rw[aU e1];by_cases e2:fg r x=j
  ·rw[aS e2];exact nR (j:=i) () (aH hi)
  ·rw[aU e2];exact h i j hi f g
theorem uL:∀{T:List<|ag}{x:Int},jM T->jM (put T x)
 | [],x,_=>⟨by simp,by show List.Pairwise _ _;simp,(λu h=>by cases h),trivial⟩
 | r::T,x,h=>by
  obtain⟨h1,h2,m,k⟩:=h;by_cases hf:fg r x=r.length
  ·rw[kJ hf];refine⟨by simp,yp h2<|KL hf,λu d=>?_,k⟩;obtain⟨g1,g2⟩:=m u d;refine⟨by rw[aV];lia,λj a b g hb=>?_⟩;have t:=(aL.mp hb).1;rw[aR ()]at g;exact g2 j a b g hb
  ·rw[mV hf];have f:=vg hf;have hy:r[fg r x]?=some (r.getD (fg r x) 0):=by rw[aI,aH f];rfl
   refine⟨λz=>h1<|by simpa using z,K9 h2 hf,λu d=>?_,uL k⟩;rw[IS]at d;rw[<- aW d];exact HC hy (yU hy) (λj z t B=>nR t B) m
theorem mz(xs:ag):∀i,i<=xs.length->(tabs xs i).1=(xs.take i).foldl put []
 | 0,_=>rfl
 | i+1,h=>by
  show put (tabs xs i).1 (xs.getD i 0)=_;rw[mz xs i (),dS (),c7,aI,aH ()];rfl
theorem se:∀(xs:ag) {T:List<|ag},jM T->jM (xs.foldl put T)
 | [],_,h=>h
 | x::xs,_,h=>se xs<|uL h
abbrev plain (T:List<|ag):ag:=T.reverse.flatten
def iV(r:ag)(T:List<|ag):plain (r::T)=plain T++r:=by unfold plain;simp
end Sy
namespace K63
open PySem L2 Am
abbrev zM (S:iH)(b:Nat):Prop:=∃g st:Int,iC S b=some [.int g,.int st]/\0<=g/\0<=st/\st<4294967296
def zM.kp{c:Nat->Prop}(h:zM S b)(k:Kp c S S')(hb:¬c b):zM S' b:=by
 obtain⟨g,st,e,q⟩:=h;exact⟨g,st,k.lst b _ hb e,q⟩
def zM.lt{S:iH}(h:zM S b):b<S.length:=by obtain⟨_,_,e,_⟩:=h;exact mO e
def La{S:iH}{ns:ag}{k:Int}(h0:0<=k)(h1:k<=100):∃S',nW [.frz<|ns.map .int,.int k] S=.ok (.ref S.length) S'/\zM S' S.length/\mQ S S':=by
 have g:Eb (.int 10) (.int 18)=λS=>R.ok (.int 1000000000000000000) S:=by
  funext S;exact j7 ⟨by decide,by decide,by decide⟩
 have m1:∀x:Int,xC (.int x) (.int 2147483647)=λS=>R.ok (.int<|x % 2147483647) S:=λx=>by funext S;exact zl ⋯
 have j:∀x:Int,zY (.int 7919) (.int x)=λS=>R.ok (.int<|7919 * x) S:=λx=>by funext S;exact HS ⋯ ⋯
 have m:∀x:Int,0<=x % 2147483647:=λx=>gy _ ⋯;have t:∀x:Int,x % 2147483647<4294967296:=λx=>by have:=fH x (show(0:Int)<2147483647 by decide);lia
 have z:∀d:Int,∃S',((RS.seq (.nx [A.frz<|ns.map .int,.int k,.int d,.unb] S) (i_ (jn (eC<|.int 0)<|je 3)
  (i_ (vD (qe<|iR PZ (iB 2)<|iR Eb (eC<|.int 10)<|eC<|.int 18) (jn (iB 2)<|je 3)<|nY)
  (j4<|rH<|iD (iB 3)<|iD (iR xC (iR ow (iR ow (iB 2)<|iR zY (eC<|.int 7919)<|iB 1)<|eC<|.int 13)<|eC<|.int 2147483647)<|iO)))).end=.ok (.ref S.length) S')/\zM S' S.length/\mQ S S':=by
  intro d;by_cases hc:1000000000000000000<=d
  ·dsimp[i8,bools,g,m1,j,bh hc];exact⟨_,rfl,⟨_,_,iW,(),m _,t _⟩,Kp.refl.lay⟩
  ·dsimp[i8,bools,g,m1,j,bx hc];exact⟨_,rfl,⟨_,_,iW,dh 0,m _,t _⟩,Kp.refl.lay⟩
 unfold nW sG r_;dsimp[i8,bools,mj,Nat.reduceAdd,Nat.reduceSub,aN];by_cases f:k<(ns.length:Int)
 ·have hn:k.toNat<ns.length:=()
  have B:oY (ns.map A.int) k=some (.int ns[k.toNat]):=uc (k:=k.toNat) ()<|aH hn;rw[bh f];dsimp[i8,bools,B];have:=z ns[k.toNat];simpa only [i8,bools]using this
 ·rw[bx f];dsimp[i8,bools];have:=z 0;simpa only [i8,bools]using this
def digit{m:Int}(h:zM S b)(h1:1<=m)(h2:m<1073741824):∃d S',jw [.ref b,.int m] S=.ok (.int d) S'/\0<=d/\d<m/\zM S' b/\Kp (·=b) S S':=by
 obtain⟨g,st,z,hg,hs,B⟩:=h;have hb:=mO z;have i0:zL 2 0=some 0:=xA rfl ⋯;have G:zL 2 1=some 1:=xA rfl ⋯;have k:∀d t f:Int,0<=d->d<m->0<=t->0<=f->f<4294967296->jw [.ref b,.int m] S=.ok (.int d) (S.set b<|.lst [.int t,.int f])->∃d S',jw [.ref b,.int m] S=.ok (.int d) S'/\0<=d/\d<m/\zM S' b/\Kp (·=b) S S':=
  λd t f F C K L J e=>⟨d,_,e,F,C,⟨t,f,oM hb,K,L,J⟩,Kp.refl.set<|.inl rfl⟩
 by_cases j:0<g
 ·refine k (g % m) (g / m) st (gy _ ()) (fH _ ()) (Int.ediv_nonneg hg ()) hs B ?_;unfold jw ng nu;rw[uq];simp[z,Mb,LJ,j,zl<|show 0<m by lia,Jh (show 0<m by lia) h2,i0]
 ·have e1:0<=(st * 48271+11) % 2147483647:=gy _ ⋯;have e2:(st * 48271+11) % 2147483647<2147483647:=fH _ ⋯;have M:0<=(st * 48271+11) % 2147483647 / 8:=()
  refine k ((st * 48271+11) % 2147483647 / 8 * 69621 % 2147483629 % m) g ((st * 48271+11) % 2147483647) (gy _ ()) (fH _ ()) hg e1 () ?_;unfold jw ng nu;rw[uq];simp[z,Mb,LJ,j,G,HS (show -18446744073709551616<st by lia) (),zl<|show(0:Int)<2147483647 by decide,oM hb,Jh (show(0:Int)<8 by decide) ⋯,HS (show -18446744073709551616<(st * 48271+11) % 2147483647 / 8 by lia) (),zl<|show(0:Int)<2147483629 by decide,zl<|show 0<m by lia]
theorem yN{v:Int}:∀(xs:ag),∃b,PK S (.int v) (xs.map .int)=some b
 | []=>⟨_,rfl⟩
 | x::xs=>by
  obtain⟨b,e⟩:=yN (S:=S) (v:=v) xs;refine⟨(x == v) || b,?_⟩;show(v_ S 12 (.int x)<|.int v).bind _=_;show Option.bind (some<|x == v) _=_;show Option.map _ (PK S (.int v)<|xs.map .int)=_;rw[e];rfl
def RW:Eb (.int 10) (.int 9)=λS=>R.ok (.int 1000000000) S:=by funext S;exact j7 ⟨by decide,by decide,by decide⟩
def Ar{S:iH}{most:Int}(h:zM S b)(h0:0<=most)(h1:most<=100) :
  ∃(xs:ag) (L:Nat) (S':iH),kr [.ref b,.int most] S=.ok (.ref L) S'/\iC S' L=some (xs.map .int)/\(xs.length:Int)<=most/\(∀x∈xs,1<=x/\x<=1000000000)/\zM S' b/\Kp (·=b) S S'/\S.length<=L:=by
 obtain⟨d,S1,e1,d0,d1,W,k1⟩:=digit (m:=most+1) h () ();obtain⟨w,S2,e2,w0,w1,Y,k2⟩:=digit (m:=4) W ⋯ ⋯;obtain⟨base,t,b0,b1⟩:∃base:Int,oY ([.int 3,.int 6,.int 1000000000,.int 40]:ae) w=some (.int base)/\1<=base/\base<=1000000000:=by
  rcases(by lia:w=0\/w=1\/w=2\/w=3)with z|z|z|z<;>subst z
  ·exact⟨3,rfl,by decide,by decide⟩
  ·exact⟨6,rfl,by decide,by decide⟩
  ·exact⟨1000000000,rfl,by decide,by decide⟩
  ·exact⟨40,rfl,by decide,by decide⟩
 have hbS:=h.lt;have l1:=k1.len;have l2:=k2.len;unfold kr nQ nL;dsimp[i8,bools,mj,Nat.reduceAdd,Nat.reduceSub,e1,e2,RW,t];generalize hS3:S2++[O.lst [.int 3,.int 6,.int 1000000000,.int 40]]=S3;have k3:Kp (·=b) S S3:=by rw[<- hS3];exact(k1.trans k2).lay
 have P:zM S3 b:=by rw[<- hS3];exact Y.kp (c:=λ_=>False) Kp.refl.lay λz=>z
 have l3:S.length<=S3.length:=k3.len;have nb:S3.length≠b:=()
 refine rG (lo:=0) (hi:=d) (S1:=S3++[.lst []]) (pF (by dsimp[i8,bools])<|mU () ())
  (λi τ S4=>∃(xs:ag) (G F:A),τ=[.ref b,.int most,.int d,.int w,.int base,.ref S3.length,G,F]/\iC S4 S3.length=some (xs.map .int)/\xs.length=i/\(∀x∈xs,1<=x/\x<=1000000000)/\zM S4 b/\Kp (·=b) S S4)
  (λr=>∃(xs:ag) (L:Nat) (S':iH),RS.end (RS.seq r _)=.ok (.ref L) S'/\iC S' L=some (xs.map .int)/\(xs.length:Int)<=most/\(∀x∈xs,1<=x/\x<=1000000000)/\zM S' b/\Kp (·=b) S S'/\S.length<=L)
  ⟨[],_,_,rfl,iW,rfl,(λ_ h=>by cases h),P.kp (c:=λ_=>False) Kp.refl.lay λz=>z,k3.lay⟩ ?_ ?_
 ·rintro i τ S4 hi ⟨xs,G,F,rfl,J,j,hx,k,K⟩;left;obtain⟨e,S5,e5,f0,f1',N,k5⟩:=digit (m:=base) k b0 ();have f:=k5.lst _ _ nb J;have lL:=mO f;have C:∀l:Int,1<=l->l<=1000000000->∃(ys:ag) (G F:A),[A.ref b,.int most,.int d,.int w,.int base,.ref S3.length,.int<|0+(i:Int),.int l]=[.ref b,.int most,.int d,.int w,.int base,.ref S3.length,G,F]/\iC (S5.set S3.length<|.lst<|xs.map A.int++[.int l]) S3.length=some (ys.map .int)/\ys.length=i+1/\(∀x∈ys,1<=x/\x<=1000000000)/\zM (S5.set S3.length<|.lst<|xs.map A.int++[.int l]) b/\Kp (·=b) S (S5.set S3.length<|.lst<|xs.map A.int++[.int l]):=λl V M=>by
   refine⟨xs++[l],_,_,rfl,by rw[oM lL,bV];rfl,by rw[aV,j];rfl,λx hx'=>?_,?_,(K.trans k5).set<|.inr l3⟩
   ·rcases bA.mp hx' with z|z
    ·exact hx x z
    ·rw[bf.mp z];exact⟨V,M⟩
   ·obtain⟨g,st,e,q⟩:=N;exact⟨g,st,by rw[k9 nb];exact e,q⟩
  have B:gd (xs.length<sizeLine)=λr:Am.R A=>r:=by funext r;exact q_ (show xs.length<16777216 by lia)
  unfold oX;dsimp[i8,bools,e5];by_cases hw:w=3
  ·rw[show(w == 3)=true by simpa using hw];obtain⟨bb,U⟩:=yN (S:=S5) (v:=1+e) xs;have Z:Sa false (.int<|1+e) (.ref S3.length) S5=.ok (.bl bb) S5:=by
    show opt (iC S5 S3.length) _=_;rw[f,iU,U];rfl
   dsimp[i8,bools,Z]
   cases bb with
   | true=>
    dsimp[i8,bools,f,aN,B];exact⟨_,_,rfl,C _ () ()⟩
   | false=>
    dsimp[i8,bools,f,aN,B];exact⟨_,_,rfl,C _ () ()⟩
  ·rw[show(w == 3)=false by simpa using hw];dsimp[i8,bools,f,aN,B];exact⟨_,_,rfl,C _ () ()⟩
 ·rintro τ S4 ⟨xs,G,F,rfl,J,j,hx,k,K⟩;dsimp[i8,bools];exact⟨xs,_,_,rfl,J,(),hx,k,K,l3⟩
def O9{r:Nat}{R:ag}{x:Int}(h:iC S r=some (R.map .int))(J:R.length<=1000):jT [.ref r,.int x] S=.ok (.int (Tb.fg R x:Nat)) S:=by
 unfold jT lV lX;dsimp[i8,bools,mj,Nat.reduceAdd,Nat.reduceSub];have f:=Tb.B8 R x;have d:=pJ (t:=kR) (c:=kM)
  (λτ S1=>S1=S/\∃k:Nat,τ=[.ref r,.int x,.int k]/\k<=Tb.fg R x)
  (λτ S1=>match τ with
   | [_,_,.int k]=>R.length-k.toNat
   | _=>0)
  (λq=>RS.end (RS.seq q<|j4<|iB 2)=.ok (.int (Tb.fg R x:Nat)) S) ?_ 1000000
 ·refine d _ _ ⟨rfl,0,rfl,bL _⟩ ?_;show R.length-_<_
  lia
 ·rintro τ S1 ⟨rfl,k,rfl,j⟩;unfold kR kM;dsimp[i8,bools,h,aN];by_cases h1:k<R.length
  ·have g:oY (R.map A.int) (k:Int)=some (.int<|R.getD k 0):=zS rfl h1;rw[bh<|show(k:Int)<R.length by lia];dsimp[i8,bools,h,g];by_cases h2:k=Tb.fg R x
   ·have hg:x<R.getD k 0:=by
     have:=dQ (xs:=R) (p:=λy=>decide<|x<y) (w:=by subst h2;exact h1);have e:R.findIdx (λy=>decide<|x<y)=k:=h2.symm;dsimp[e]at this;rw[aI,aH h1];simpa using this
    left;refine⟨S1,by rw[bx ()],?_⟩;dsimp[i8,bools,h2]
   ·have hg:R.getD k 0<=x:=by
     have:=eG (xs:=R) (p:=λy=>decide<|x<y) (i:=k) (show k<Tb.fg R x by lia);rw[aI,aH h1];simpa using this
    right;refine⟨S1,by rw[bh hg],.inl ⟨_,_,rfl,⟨rfl,k+1,rfl,()⟩,?_⟩⟩;show R.length-((k:Int)+1).toNat<R.length-(k:Int).toNat
    lia
  ·left;rw[bx<|show ¬(k:Int)<R.length by lia];have:k=Tb.fg R x:=()
   refine⟨S1,by dsimp[i8,bools],?_⟩;dsimp[i8,bools,this]
def NK{S:iH}{m:Nat}{qs:am}{T:List<|ag}{x:Int}(h:Tab S m qs T)(hl:T.length<=1000)(hr:∀i,(T.getD i []).length<=1000) :
  ∃(qs':am) (S':iH),jU [.ref m,.int x] S=.ok (.int (Tb.row T x:Nat)) S'/\Tab S' m qs' (Tb.put T x)/\Kp (·∈m::qs) S S'/\∀r∈qs',r∈qs\/S.length<=r:=by
 unfold jU lZ lO;dsimp[i8,bools,mj,Nat.reduceAdd,Nat.reduceSub];have Z:=h.len;have hm:m∈m::qs:=aM ..;have W:=pJ (t:=kK) (c:=kU)
  (λτ S2=>∃(i:Nat) (U:List<|ag) (y:Int) (a3:A),τ=[.ref m,.int y,.int i,a3]/\i<=T.length/\Tab S2 m qs U/\Kp (·∈m::qs) S S2/\U.length=T.length/\(∀j,(U.getD j []).length<=1000)/\Tb.put T x=U.take i++Tb.put (U.drop i) y/\Tb.row T x=i+Tb.row (U.drop i) y)
  (λτ S1=>match τ with
   | [_,_,.int k,_]=>T.length-k.toNat
   | _=>0)
  (λq=>∃(qs':am) (S':iH),RS.end (RS.seq q<|i_ (qo<|Jp lE (iB 0)<|iD (rH<|iD (iB 1) iO) iO)<|j4<|iB 2)=.ok (.int (Tb.row T x:Nat)) S'/\Tab S' m qs' (Tb.put T x)/\Kp (·∈m::qs) S S'/\∀r∈qs',r∈qs\/S.length<=r) ?_ 1000000
 ·refine W _ _ ⟨0,T,x,_,rfl,bL _,h,Kp.refl,rfl,hr,rfl,by rw[gF];rfl⟩ ?_;show T.length-_<_
  lia
 ·rintro τ S2 ⟨i,U,y,a3,rfl,hi0,h2,k2,hU,L,B,d⟩;unfold kK;dsimp[i8,bools,h2.top,aN,Z];by_cases hi':i<T.length
  ·right;refine⟨S2,by rw[bh ()],?_⟩;have Y:i<qs.length:=()
   have hi:i<U.length:=()
   generalize hr0:qs.getD i 0=r;have F:qs[i]?=some r:=by rw[<- hr0,aI,aH Y];rfl
   obtain⟨_,g⟩:=h2.rows.get F;generalize hR:U.getD i []=R at g;have N:R.length<=1000:=by rw[<- hR];exact L i
   have f:U.drop i=R::U.drop (i+1):=by
    rw[bO hi,<- hR,aI,aH hi];rfl
   have J:r∈m::qs:=aK _<|bz F;have hnm:r≠m:=λz=>(bP.mp h2.nd).1 (by rw[<- z];exact bz F);have P:oY (qs.map A.ref) (i:Int)=some (.ref r):=oB rfl (by rw[aY,F];rfl);have e6:∀V,U.set i V=U.take i++V::U.drop (i+1):=λV=>by rw[fM,aS hi]
   unfold kU;dsimp[i8,bools,h2.top,P,O9 g N,g,aN];by_cases C:Tb.fg R y=R.length
   ·right;rw[show(((Tb.fg R y:Nat):Int) == (R.length:Int))=true by rw[C];simp];dsimp[i8,bools,h2.top,P,g,aN,q_<|show R.length<16777216 by lia];have G:=h2.set (i:=i) (r:=r) (ys:=R++[y]) F;rw[bV]at G;rw[f,Tb.qa C]at d;refine⟨_,_,rfl,qs,_,by rw[d];rfl,?_,k2.set<|.inl J,λr hr=>.inl hr⟩;rw[B,f,Tb.kJ C,<- e6];exact G
   ·left;have M:=Tb.vg C;have e1:oY (R.map A.int) (Tb.fg R y:Int)=some (.int<|R.getD (Tb.fg R y) 0):=zS rfl M;have e2:zL R.length (Tb.fg R y:Int)=some (Tb.fg R y):=xA rfl M;rw[show(((Tb.fg R y:Nat):Int) == (R.length:Int))=false by rw[c9];lia];dsimp[i8,bools,h2.top,P,g,e1,aN,e2,qH<|show([_,_]:ae).length<=16777216 by simp,j7<|show([_,_]:ae).length=2 from rfl];have G:=h2.set (i:=i) (r:=r) (ys:=R.set (Tb.fg R y) y) F;rw[map_set]at G;have l1:(U.take i).length=i:=by rw[b_];lia
    have d1:(U.set i<|R.set (Tb.fg R y) y).drop (i+1)=U.drop (i+1):=by
     rw[e6,List.drop_append,l1,Nat.add_sub_cancel_left,dc (by lia:(U.take i).length<=i+1)];simp
    have t1:(U.set i<|R.set (Tb.fg R y) y).take (i+1)=U.take i++[R.set (Tb.fg R y) y]:=by
     rw[e6,List.take_append,l1,Nat.add_sub_cancel_left,eF (by lia:(U.take i).length<=i+1)];simp
    refine⟨_,_,rfl,⟨i+1,U.set i<|R.set (Tb.fg R y) y,_,_,rfl,(),G,k2.set<|.inl J,by rw[bH];exact hU,λj=>?_,?_,?_⟩,?_⟩
    ·rw[aI,fV];by_cases hj:i=j
     ·rw[aS hj,aS hi];simpa using N
     ·rw[aU hj,<- aI];exact L j
    ·rw[B,f,Tb.mV C,t1,d1];simp
    ·rw[d,f,Tb.sO C,d1];lia
    ·show T.length-((i:Int)+1).toNat<T.length-(i:Int).toNat
     lia
  ·left;have K:i=U.length:=()
   refine⟨S2,by rw[bx ()],?_⟩;rw[K,g_,gh]at B;rw[K,gh]at d;have lm:iC (S2++[O.lst [.int y]]) m=some (qs.map .ref):=lC h2.top;dsimp[i8,bools,h2.top,lm,aN,q_<|show qs.length<16777216 by lia];have G:=h2.push (ys:=[y]);rw[bV]at G;refine⟨qs++[S2.length],_,by rw[d,K];rfl,?_,k2.lay.set<|.inl hm,λr hr=>?_⟩
   ·rw[B];exact G
   ·rcases bA.mp hr with z|z
    ·exact .inl z
    ·right;rw[bf.mp z];exact k2.len
def HY{S:iH}{xs:ag}(h:iC S L=some (xs.map .int))(hl:xs.length<=100) :
  ∃(rs qs:am) (n m:Nat) (S':iH),pR [.ref L] S=.ok (.tup [.ref n,.ref m]) S'/\Tab S' n rs (Tb.tabs xs xs.length).1/\Tab S' m qs (Tb.tabs xs xs.length).2/\mQ S S'/\(∀r∈n::rs,S.length<=r)/\(∀r∈m::qs,S.length<=r)/\∀r∈n::rs,r∉m::qs:=by
 have lL:=mO h;unfold pR uI uE;dsimp[i8,bools,mj,Nat.reduceAdd,Nat.reduceSub];have lb:(S++[O.lst []]).length=S.length+1:=by rw[aV];rfl
 have k0:mQ S (S++[O.lst []]++[O.lst []]):=Kp.refl.lay.lay;have h0:=k0.lst _ _ (λz=>z) h;have hs:uK [.ref L,.ref S.length,.ref (S++[O.lst []]).length,.unb,.unb,.unb] (S++[O.lst []]++[O.lst []])=.ok (pW L (xs.map A.int).length) (S++[O.lst []]++[O.lst []]):=B6 (by dsimp[i8,bools]) h0;unfold m8;rw[hs];refine sA (s:=pW L (xs.map A.int).length)
  (λi τ S1=>∃(rs qs:am) (a3 a4 a5:A),τ=[.ref L,.ref S.length,.ref (S++[O.lst []]).length,a3,a4,a5]/\Tab S1 S.length rs (Tb.tabs xs i).1/\Tab S1 (S++[O.lst []]).length qs (Tb.tabs xs i).2/\mQ S S1/\(∀r∈S.length::rs,S.length<=r)/\(∀r∈(S++[O.lst []]).length::qs,S.length<=r)/\∀r∈S.length::rs,r∉(S++[O.lst []]).length::qs)
  (λq=>∃(rs qs:am) (n m:Nat) (S':iH),RS.end (RS.seq q _)=.ok (.tup [.ref n,.ref m]) S'/\Tab S' n rs (Tb.tabs xs xs.length).1/\Tab S' m qs (Tb.tabs xs xs.length).2/\mQ S S'/\(∀r∈n::rs,S.length<=r)/\(∀r∈m::qs,S.length<=r)/\∀r∈n::rs,r∉m::qs)
  ?_ ?_ (xs.map A.int).length 0 _ _ rfl
  ⟨[],[],_,_,_,rfl,Tab.nil<|lC iW,Tab.nil iW,k0,(λr hr=>by rw[bf.mp hr];exact aO _),(λr hr=>by rw[bf.mp hr,lb];lia),λr hr C=>by rw[bf.mp hr]at C;have:=bf.mp C;lia⟩
 ·rintro i τ S1 hi ⟨rs,qs,a3,a4,a5,rfl,U,M,k1,fr,K,P⟩;have hi:i<(xs.map A.int).length:=hi;rw[aN]at hi;generalize hm:(S++[O.lst []]).length=m at M K P;obtain⟨z1,z2⟩:=Tb.uT xs i;have hL1:=k1.lst _ _ (λz=>z) h;obtain⟨G,S2,e2,f,k2,fr2⟩:=NK (x:=xs.getD i 0) U () (λj=>by have:=z2 j;lia);have d:Tab S2 m qs (Tb.tabs xs i).2:=M.kp k2 λr hr z=>P r z hr;generalize hX:xs.getD i 0=x at e2 f;generalize hTT:(Tb.tabs xs i).1=T at U f z1 z2 e2;generalize hQQ:(Tb.tabs xs i).2=Q at M d;have hQl:Q.length=T.length:=by rw[<- hQQ,<- hTT];exact Tb.Gm xs i
  have hrl:=Tb.IA T x;have lQ:=d.len;have W:=k2.len;have ltQ:=M.lt;have ltT:=U.lt;have F:m∈m::qs:=aM ..;have nx:Tb.tabs xs (i+1)=(Tb.put T x,Tb.add Q (Tb.row T x)<|(i:Int)+1):=by rw[<- hTT,<- hQQ,<- hX];rfl
  have Y:∀r∈S.length::G,S.length<=r:=λr hr=>by
   rcases a_.mp hr with z|z
   ·rw[z];exact aO _
   ·rcases fr2 r z with z|z
    ·exact fr r (aK _ z)
    ·exact bC k1.len z
  have B:∀r∈S.length::G,r∉m::qs:=λr hr C=>by
   rcases a_.mp hr with z|z
   ·exact P r (by rw[z];exact aM ..) C
   ·rcases fr2 r z with z|z
    ·exact P r (aK _ z) C
    ·have:=ltQ r C;lia
  have Z:mQ S S2:=k1.old k2 λa ha _ z=>absurd (fr a z) ();refine⟨.tup [.int i,.int x],[.ref L,.ref S.length,.ref m,.int i,.int x,a5],S1,?_,by dsimp[i8,bools,j7<|show([_,_]:ae).length=2 from rfl],.inl ?_⟩
  ·show(iC S1 L).bind _=_;rw[hL1,cG,aY,aH hi,<- hX,aI,aH hi];rfl
  unfold uS;dsimp[i8,bools,e2,d.top,aN,lQ,hQl];by_cases hr:Tb.row T x=T.length
  ·rw[show(((Tb.row T x:Nat):Int) == (T.length:Int))=true by rw[hr];simp];have lm:iC (S2++[O.lst []]) m=some (qs.map .ref):=lC d.top;have hP:=d.push (ys:=[]);rw[dM]at hP;have hPq:=hP.rows.get (i:=qs.length) (r:=S2.length) (by simp);have V:=hPq.2;have e4:(Q++[([]:ag)]).getD qs.length []=[]:=by rw[aI,lQ];simp
   rw[e4,dM]at V;have g:oY ((qs++[S2.length]).map A.ref) (Tb.row T x:Int)=some (.ref S2.length):=oB (k:=qs.length) () (by simp);have t:=hP.top;rw[bV]at t g V;dsimp[i8,bools,d.top,lm,aN,q_<|show qs.length<16777216 by lia];dsimp[bD,dM]at t g V;dsimp[i8,bools,t,g,V,dG,q_<|show 0<16777216 by decide];have N:=hP.set (i:=qs.length) (r:=S2.length) (ys:=[(i:Int)+1]) (by simp);have s5:(Q++[[]]).set qs.length [(i:Int)+1]=Tb.add Q (Tb.row T x) ((i:Int)+1):=by
    rw[show Tb.row T x=Q.length by lia,Tb.BE,lQ];simp
   rw[s5,bV]at N;dsimp[bD,dM,gw]at N;have kk:Kp (λa=>a∈m::qs\/S2.length<=a) S2 (((S2++[O.lst []]).set m<|O.lst<|List.map A.ref qs++[A.ref S2.length]).set S2.length<|O.lst<|[]++[A.int<|(i:Int)+1]):=(Kp.refl.lay.set<|.inl<|.inl F).set<|.inr<|aO _;refine⟨_,_,rfl,G,qs++[S2.length],_,_,_,rfl,?_,?_,?_,Y,λr hr=>?_,λr hr C=>?_⟩
   ·rw[nx];exact f.kp kk λr hr z=>by
     rcases z with z|z
     ·exact B r hr z
     ·exact absurd (f.lt r hr) ()
   ·rw[nx];exact N
   ·exact(Z.lay.set<|.inr<|K m F).set (.inr<|bC k1.len W)
   ·rcases a_.mp hr with z|z
    ·rw[z];exact K m F
    ·rcases bA.mp z with z|z
     ·exact K r (aK _ z)
     ·rw[bf.mp z];exact bC k1.len W
   ·have hrl:=f.lt r hr
    rcases a_.mp C with z|z
    ·exact B r hr (by rw[z];exact F)
    ·rcases bA.mp z with z|z
     ·exact B r hr (aK _ z)
     ·have:=bf.mp z;lia
  ·rw[show(((Tb.row T x:Nat):Int) == (T.length:Int))=false by rw[c9];lia];have hrq:Tb.row T x<qs.length:=()
   generalize hq0:qs.getD (Tb.row T x) 0=q;have J:qs[Tb.row T x]?=some q:=by rw[<- hq0,aI,aH hrq];rfl
   have V:=(d.rows.get J).2;have g:oY (qs.map A.ref) (Tb.row T x:Int)=some (.ref q):=oB rfl (by rw[aY,J];rfl);have hbq:(Q.getD (Tb.row T x) []).length<=100:=by
    have e:=Tb.pO Q<|Tb.row T x;have:=Tb.jH xs i;rw[hTT,hQQ]at this;rw[<- e,this,Tb.pO];have:=z2<|Tb.row T x;lia
   have hmq:q∈m::qs:=aK _<|bz J;dsimp[i8,bools,d.top,g,V,aN,q_<|show(Q.getD (Tb.row T x) []).length<16777216 by lia];have N:=d.set (i:=Tb.row T x) (r:=q) (ys:=Q.getD (Tb.row T x) []++[(i:Int)+1]) J;rw[<- Tb.HX Q (Tb.row T x) _ (),bV]at N;have kk:Kp (·∈m::qs) S2 (S2.set q<|O.lst<|(Q.getD (Tb.row T x) []).map A.int++[A.int<|(i:Int)+1]):=Kp.refl.set<|.inl hmq;refine⟨_,_,rfl,G,qs,_,_,_,rfl,?_,?_,?_,Y,λr hr=>K r hr,λr hr C=>B r hr C⟩
   ·rw[nx];exact f.kp kk λr hr z=>B r hr z
   ·rw[nx];exact N
   ·exact Z.set<|.inr<|K q hmq
 ·rintro τ S1 ⟨rs,qs,a3,a4,a5,rfl,U,M,k1,fr,K,P⟩;have ek:(pW L (xs.map A.int).length).k=xs.length:=aN ..;rw[ek]at U M;refine⟨?_,?_⟩
  ·show(match iC S1 L with
    | some ys=>decide (ys.length=(xs.map A.int).length)
    | none=>false)=true
   rw[k1.lst _ _ (λz=>z) h];simp
  ·dsimp[i8,bools,qH<|show([_,_]:ae).length<=16777216 by simp];exact⟨rs,qs,_,_,_,rfl,U,M,k1,fr,K,P⟩
end K63
namespace Sy
open Tb
abbrev ls (r:ag)(y:Int):Nat:=(r.findIdx λz=>decide<|y<=z)-1
abbrev j8:List (ag)->Nat->Int×List (ag)
 | [],_=>(0,[])
 | r::T,0=>(r.getLastD 0,r.dropLast::T)
 | r::T,a+1=>(r.getD (ls r (j8 T a).1) 0,r.set (ls r (j8 T a).1) (j8 T a).1::(j8 T a).2)
abbrev pad (T:List<|ag)(n:Nat):List (ag):=T++List.replicate (n-T.length) []
def Qf{r:ag}{y:Int}{p:Nat}(hp:p<r.length)(h1:∀j z,j<=p->r[j]?=some z->z<y)(h2:∀j z,p<j->r[j]?=some z->y<=z):ls r y=p:=by
 have a:¬r.findIdx (λz=>decide<|y<=z)<=p:=λc=>by
  have d:r.findIdx (λz=>decide<|y<=z)<r.length:=()
  have:=dQ (xs:=r) (p:=λz=>decide<|y<=z) (w:=d);have:=h1 _ _ c<|aH d;simp at *;lia
 have b:r.findIdx (λz=>decide<|y<=z)<=p+1:=by
  rcases dR (p+1) (r.findIdx λz=>decide<|y<=z)with c|c
  ·exfalso;have d:p+1<r.length:=by have:=fU (xs:=r) (p:=λz=>decide<|y<=z);lia
   have q:=eG (xs:=r) (p:=λz=>decide<|y<=z) (i:=p+1) c;have:=h2 (p+1) _ (bE _)<|aH d;simp at q;lia
  ·exact c
 unfold ls
 lia
def oq{r:ag}(h:vK r){i j:Nat}{x y:Int}(J:i<=j)(hx:r[i]?=some x)(hy:r[j]?=some y):x<=y:=by
 rcases Nat.lt_or_eq_of_le J with c|c
 ·obtain⟨hi,e1⟩:=aL.mp hx;obtain⟨d,e2⟩:=aL.mp hy;rw[<- e1,<- e2];exact eX.mp h i j hi d c
 ·subst c;rw[hx]at hy;cases hy;exact dh _
theorem By:∀{T:List<|ag}{x:Int},(∀r∈T,vK r)->j8 (put T x) (row T x)=(x,pad T (put T x).length)
 | [],x,_=>rfl
 | r::T,x,h=>by
  by_cases c:fg r x=r.length
  ·rw[kJ c,qa c];show((r++[x]).getLastD 0,(r++[x]).dropLast::T)=_;unfold pad;simp
  ·have hp:=vg c;have hy:r[fg r x]?=some (r.getD (fg r x) 0):=by rw[aI,aH hp];rfl
   have k:=yU hy;have t:=By (T:=T) (x:=r.getD (fg r x) 0) λq m=>h q<|aK _ m;have hr:=h r<|aM ..;rw[mV c,sO c];have e:ls (r.set (fg r x) x) (r.getD (fg r x) 0)=fg r x:=by
    refine Qf (by rw[bH];exact hp) (λj z g f=>?_) λj z g f=>?_
    ·rcases Nat.lt_or_eq_of_le g with d|d
     ·rw[bF ()]at f;have:=nR d f
      lia
     ·rw[d,bG hp]at f
      cases f;exact k
    ·rw[bF ()]at f;exact oq hr (cW g) hy f
   show((r.set (fg r x) x).getD (ls _ (j8 (put T _)<|row T _).1) 0,(r.set (fg r x) x).set (ls _ (j8 (put T _)<|row T _).1) (j8 (put T _)<|row T _).1::(j8 (put T _)<|row T _).2)=_;rw[t];show((r.set (fg r x) x).getD (ls _<|r.getD (fg r x) 0) 0,(r.set (fg r x) x).set (ls _<|r.getD (fg r x) 0) (r.getD (fg r x) 0)::pad T _)=_;rw[e,gG];refine iz ?_ ?_
   ·show(r.set (fg r x) x).getD (fg r x) 0=x;rw[aI,bG hp];rfl
   ·show r.set (fg r x) (r.getD (fg r x) 0)::pad T _=pad (r::T) _;have:r.set (fg r x) (r.getD (fg r x) 0)=r:=by
     rw[aI,aH hp];exact f_ hp
    rw[this];unfold pad;rw[bw,bw,gb];rfl
def xU{r:ag}{y z:Int}{q:Nat}(h:vK r)(J:r[q]?=some z)(L:z<y):q<=ls r y/\ls r y<r.length/\(∀j z,j<=ls r y->r[j]?=some z->z<y)/\∀j z,ls r y<j->r[j]?=some z->y<=z:=by
 have t:=(aL.mp J).1;have le:=fU (xs:=r) (p:=λz=>decide<|y<=z);have b:∀j w,j<r.findIdx (λz=>decide<|y<=z)->r[j]?=some w->w<y:=λj w f hw=>by
  have m:=eG (xs:=r) (p:=λz=>decide<|y<=z) (i:=j) f;obtain⟨d,e⟩:=aL.mp hw;rw[e]at m;simp at m;lia
 have a:q<r.findIdx λz=>decide (y<=z):=by
  rcases dR q (r.findIdx λz=>decide<|y<=z)with c|c
  ·exact c
  ·exfalso;have d:r.findIdx (λz=>decide<|y<=z)<r.length:=()
   have m:=dQ (xs:=r) (p:=λz=>decide<|y<=z) (w:=d);have:=oq h c (aH d) J;simp at m;lia
 refine⟨by unfold ls;lia,by unfold ls;lia,λj w f hw=>b j w (by unfold ls at f;lia) hw,λj w f hw=>?_⟩;have g:r.findIdx (λz=>decide<|y<=z)<=j:=by unfold ls at f;lia
 have k:=(aL.mp hw).1;have d:r.findIdx (λz=>decide<|y<=z)<r.length:=()
 have m:=dQ (xs:=r) (p:=λz=>decide<|y<=z) (w:=d);have:=oq h g (aH d) hw;simp at m;lia
def Nz{r:ag}(h:∀(i j:Nat) (x y:Int),i<j->r[i]?=some x->r[j]?=some y->x<=y):vK r:=
 eX.mpr λi j hi f d=>h i j _ _ d (aH hi)<|aH f
abbrev nB (T:List<|ag)(a:Nat):Prop:=a<T.length/\∀u,T[a+1]?=some u->u.length<(T.getD a []).length
theorem uo:∀{T:List<|ag}{a:Nat},jM T->nB T a->∃T',jM T'/\(j8 T a).2=pad T' T.length/\put T' (j8 T a).1=T/\row T' (j8 T a).1=a/\T'.length<=T.length /\
  ∃(u:ag) (q:Nat),T.head?=some u/\u[q]?=some (j8 T a).1/\∀u',T'.head?=some u'->u'.length<=u.length/\(∀(j:Nat) (z:Int),q<=j->u'[j]?=some z->(j8 T a).1<z)/\∀(j:Nat) (z:Int),u'[j]?=some z->∃z0,u[j]?=some z0/\z0<=z
 | [],a,_,c=>absurd c.1 (cL _)
 | r::T,0,h,c=>by
  obtain⟨h1,h2,O,M⟩:=h;have rl:0<r.length:=b8.mpr h1;have f:r[r.length-1]?=some (r.getLastD 0):=by
   rw[eY,eZ];rw[aH ()];rfl
  have app:r.dropLast++[r.getLastD 0]=r:=by
   rw[eY,gq h1];exact gz h1
  have dl:r.dropLast.length=r.length-1:=eU;have G:∀j z,r.dropLast[j]?=some z->j<r.length-1/\r[j]?=some z:=λj z d=>by
   have C:=(aL.mp d).1;refine⟨(),?_⟩;rw[<- app,aR C];exact d
  show ∃T',jM T'/\r.dropLast::T=pad T' (T.length+1)/\put T' (r.getLastD 0)=r::T/\row T' (r.getLastD 0)=0/\T'.length<=T.length+1/\∃(u:ag) (q:Nat),some r=some u/\u[q]?=some (r.getLastD 0)/\_;by_cases e:r.dropLast=[]
  ·have rl1:r.length=1:=by rw[e]at dl;simp at dl;lia
   have eT:T=[]:=by
    cases T with
    | nil=>rfl
    | cons u U=>
     have:=c.2 u rfl;have nz:=b8.mpr M.1;simp at this
     lia
   subst eT;refine⟨[],trivial,by rw[e];rfl,?_,rfl,bL _,r,r.length-1,rfl,f,λu' k=>by cases k⟩;show[[r.getLastD 0]]=[r];rw[e]at app;rw[<- app];rfl
  ·have fl:fg r.dropLast (r.getLastD 0)=r.dropLast.length:=by
    rcases dR (fg r.dropLast<|r.getLastD 0) r.dropLast.length with z|z
    ·exfalso;have g:=aH z;have g1:=yU g;have g2:=G _ _ g;have:=oq h2 (cW g2.1) g2.2 f
     lia
    ·exact dH (B8 _ _) z
   refine⟨r.dropLast::T,⟨e,h2.sublist<|List.dropLast_sublist _,λu k=>⟨?_,λj x y hx hy=>(O u k).2 j x y (G j x hx).2 hy⟩,M⟩,?_,?_,qa fl,aO _,r,r.length-1,rfl,f,λu' k=>?_⟩
   ·have:=c.2 u (by rw[ee,<- fW];exact k);simp at this
    lia
   ·unfold pad;simp
   ·rw[kJ fl,app]
   ·cases k
    exact⟨(),λj z C d=>absurd (G j z d).1 (),λj z d=>⟨z,(G j z d).2,dh _⟩⟩
 | r::T,a+1,h,c=>by
  obtain⟨h1,h2,O,M⟩:=h;have c':nB T a:=⟨by have:=c.1;simp at this;lia,λu k=>by have:=c.2 u (by rw[ee];exact k);simpa using this⟩;obtain⟨T',t1,t2,t3,t4,t5,u,q,k,Z,hh⟩:=uo M c';generalize hy:(j8 T a).1=y at *
  have J:=O u k;have ql:=(aL.mp Z).1;have qr:q<r.length:=by have:=J.1;lia
  have V:r[q]?=some r[q]:=aH qr;obtain⟨s1,F,W,s4⟩:=xU h2 V<|J.2 q _ _ V Z;generalize hP:ls r y=P at *
  have K:r[P]?=some (r.getD P 0):=by rw[aI,aH F];rfl
  generalize hx:r.getD P 0=x at *
  have Y:=W P x (aO _) K;have t:(r.set P y)[P]?=some y:=bG F;have B:∀j,j≠P->(r.set P y)[j]?=r[j]?:=λj C=>bF<|cj C;have L:fg (r.set P y) x=P:=by
   have l1:=Ig t Y
   rcases dR (fg (r.set P y) x) P with z|z
   ·exfalso;have hl:fg (r.set P y) x<(r.set P y).length:=by rw[bH];lia
    have g:=aH hl;have g1:=yU g;rw[B _ ()]at g;have:=oq h2 (cW z) g K
    lia
   ·lia
  have tk:j8 (r::T) (a+1)=(x,r.set P y::(j8 T a).2):=by
   show(r.getD (ls r (j8 T a).1) 0,r.set (ls r (j8 T a).1) (j8 T a).1::(j8 T a).2)=_;rw[hy,hP,hx]
  rw[tk];refine⟨r.set P y::T',⟨λz=>h1<|cO.mp<|by rw[<- bH (i:=P) (a:=y),z];rfl,Nz λi j v w N hv hw=>?_,λu' m=>⟨?_,λj v w hv hw=>?_⟩,t1⟩,?_,?_,?_,by simpa using t5,r,P,rfl,K,λu' m=>?_⟩
  ·by_cases e1:i=P
   ·rw[e1,t]at hv;cases hv;rw[B j ()]at hw;exact s4 j w () hw
   ·rw[B i e1]at hv;by_cases e2:j=P
    ·rw[e2,t]at hw;cases hw;have:=W i v () hv
     lia
    ·rw[B j e2]at hw;exact oq h2 (cW N) hv hw
  ·have:=(hh u' m).1;have:=J.1;rw[bH];lia
  ·obtain⟨_,k2,k3⟩:=hh u' m;by_cases e1:j=P
   ·rw[e1,t]at hv;cases hv;exact k2 j w () hw
   ·rw[B j e1]at hv;obtain⟨z0,g1,g2⟩:=k3 j w hw;have:=J.2 j v z0 hv g1
    lia
  ·show r.set P y::(j8 T a).2=_;rw[t2];unfold pad;rw[bw,bw,gb];rfl
  ·show put (r.set P y::T') x=r::T;rw[mV<|by rw[L,bH];lia,L,gG];have g:(r.set P y).getD P 0=y:=by rw[aI,t];rfl
   rw[g,t3,<- hx];congr 1;rw[aI,aH F];exact f_ F
  ·show row (r.set P y::T') x=a+1;rw[sO<|by rw[L,bH];lia,L];have g:(r.set P y).getD P 0=y:=by rw[aI,t];rfl
   rw[g,t4]
  ·cases m
   refine⟨by rw[bH];exact aO _,λj z C d=>?_,λj z d=>?_⟩
   ·by_cases e1:j=P
    ·rw[e1,t]at d;cases d;exact Y
    ·rw[B j e1]at d;have:=s4 j z () d
     lia
   ·by_cases e1:j=P
    ·rw[e1,t]at d;cases d;exact⟨x,by rw[e1];exact K,()⟩
    ·rw[B j e1]at d;exact⟨z,d,dh _⟩
end Sy
namespace Sy
open Tb
abbrev wh (Q:List<|ag)(k:Int):Nat:=Q.findIdx λq=>decide<|k∈q
def mh(q:ag)(Q:List<|ag)(k:Int):wh (q::Q) k=if k∈q then 0 else wh Q k+1:=by
 unfold wh;rw[gW];by_cases c:k∈q
 ·rw[aS c,bh c];rfl
 ·rw[aU c,bx c];rfl
theorem CB:∀{Q:List<|ag}{i:Nat}{m:Int},(∀q∈Q,m∉q)->i<=Q.length->wh (add Q i m) m=i
 | [],i,m,_,h=>by
  have:i=0:=by simpa using h
  subst this;show wh [[m]] m=0;rw[mh,aS<|bf.mpr rfl]
 | q::Q,0,m,h,_=>by
  show wh ((q++[m])::Q) m=0;rw[mh,aS<|by simp]
 | q::Q,i+1,m,h,hl=>by
  show wh (q::add Q i m) m=_;rw[mh,aU<|h q<|aM ..,CB (λp hp=>h p<|aK _ hp)<|by simpa using hl]
theorem FY:∀{Q:List<|ag}{i:Nat}{k m:Int},k≠m->(∃q∈Q,k∈q)->wh (add Q i m) k=wh Q k
 | [],i,k,m,_,h=>by obtain⟨q,f,_⟩:=h;cases f
 | q::Q,0,k,m,hn,h=>by
  show wh ((q++[m])::Q) k=_;rw[mh,mh];have:k∈q++[m] ↔ k∈q:=by simp[hn]
  by_cases c:k∈q
  ·rw[aS<|this.mpr c,aS c]
  ·rw[aU λz=>c<|this.mp z,aU c]
 | q::Q,i+1,k,m,hn,h=>by
  show wh (q::add Q i m) k=_;rw[mh,mh];by_cases c:k∈q
  ·rw[aS c,aS c]
  ·rw[aU c,aU c,FY hn];obtain⟨p,hp,d⟩:=h
   rcases a_.mp hp with e|e
   ·rw[e]at d;exact absurd d c
   ·exact⟨p,e,d⟩
theorem um:∀{Q:List<|ag}{i:Nat}{m k:Int},(∃q∈add Q i m,k∈q) ↔ (k=m\/∃q∈Q,k∈q)
 | [],i,m,k=>by show(∃q∈[[m]],k∈q) ↔ _;simp
 | q::Q,0,m,k=>by
  show(∃p∈(q++[m])::Q,k∈p) ↔ _;dsimp[a_,exists_eq_or_imp,bA,bf];constructor
  ·rintro((h|h)|h)
   ·exact .inr (.inl h)
   ·rcases h with h|h
    ·exact .inl h
    ·cases h
   ·exact .inr<|.inr h
  ·rintro(h|h|h)
   ·exact .inl (.inr<|.inl h)
   ·exact .inl (.inl h)
   ·exact .inr h
 | q::Q,i+1,m,k=>by
  show(∃p∈q::add Q i m,k∈p) ↔ _;dsimp[a_,exists_eq_or_imp];rw[um (Q:=Q)];constructor
  ·rintro(h|h|h)
   ·exact .inr (.inl h)
   ·exact .inl h
   ·exact .inr<|.inr h
  ·rintro(h|h|h)
   ·exact .inr (.inl h)
   ·exact .inl h
   ·exact .inr<|.inr h
theorem uC:∀(T:List<|ag) (x:Int),row T x<(put T x).length/\row T x<=T.length
 | [],x=>⟨bE _,aO _⟩
 | r::T,x=>by
  by_cases c:fg r x=r.length
  ·rw[kJ c,qa c];exact⟨Nat.succ_pos _,bL _⟩
  ·rw[mV c,sO c];have:=uC T<|r.getD (fg r x) 0;exact⟨gg this.1,d_ this.2⟩
def rX(r:ag)(T:List<|ag)(m:Nat):pad (r::T) (m+1)=r::pad T m:=by
 unfold pad;rw[bw,gb];rfl
theorem rj:∀{T:List<|ag}{a m:Nat},a<T.length->T.length<=m->j8 (pad T m) a=((j8 T a).1,pad (j8 T a).2 m)
 | [],a,m,h,_=>absurd h (cL _)
 | r::T,0,m,_,hm=>by
  obtain⟨m,rfl⟩:∃k,m=k+1:=⟨m-1,by simp at hm;lia⟩;rw[rX];show(r.getLastD 0,r.dropLast::pad T m)=(r.getLastD 0,pad (r.dropLast::T)<|m+1);rw[rX]
 | r::T,a+1,m,h,hm=>by
  obtain⟨m,rfl⟩:∃k,m=k+1:=⟨m-1,by simp at hm;lia⟩;rw[rX];show(r.getD (ls r (j8 (pad T m) a).1) 0,r.set (ls r (j8 (pad T m) a).1) (j8 (pad T m) a).1::(j8 (pad T m) a).2)=(r.getD (ls r (j8 T a).1) 0,pad (r.set (ls r (j8 T a).1) (j8 T a).1::(j8 T a).2)<|m+1);rw[rj (by simpa using h)<|by simpa using hm,rX]
def xN{T:List<|ag}(h:T.length<=l)(hm:l<=m):pad (pad T l) m=pad T m:=by
 unfold pad;rw[br,List.replicate_append_replicate,aV,fX];congr 2
 lia
abbrev Me (j:Nat->Nat):Nat->List (ag)->ag
 | 0,_=>[]
 | k+1,P=>Me j k (j8 P<|j<|k+1).2++[(j8 P<|j<|k+1).1]
theorem rg:∀{T:List<|ag},jM T->∀r∈T,vK r
 | [],_,r,h=>nomatch h
 | q::T,⟨_,h2,_,h4⟩,r,h=>by
  rcases a_.mp h with e|e
  ·rw[e];exact h2
  ·exact rg h4 r e
def tu(xs:ag){n:Nat}(h:n<=xs.length):jM (tabs xs n).1:=by
 rw[mz xs n h];exact se _ trivial
def J8(T:List<|ag)(x:Int):T.length<=(put T x).length:=by
 have:=cA List.length<|mw T x;rw[aN]at this;rw[this];have:∀(l:am) (i:Nat),l.length<=(bump l i).length:=λl=>by
  induction l with
  | nil=>intro i;exact bL _
  | cons n l d=>
   intro i
   cases i with
   | zero=>exact aO _
   | succ i=>exact d_<|d i
 have:=this (T.map List.length)<|row T x;rw[aN]at this;exact this
theorem zd(xs:ag)(J:Nat->Nat):∀(n:Nat),n<=xs.length->∀(m:Nat),(∀k,k<n->J (k+1)=row (tabs xs k).1 (xs.getD k 0))->(tabs xs n).1.length<=m->Me J n (pad (tabs xs n).1 m)=xs.take n
 | 0,_,_,_,_=>rfl
 | n+1,h,m,hr,hm=>by
  have f:=tu xs (n:=n) ();have e:(tabs xs<|n+1).1=put (tabs xs n).1 (xs.getD n 0):=rfl;rw[e]at hm ⊢;have d:=J8 (tabs xs n).1<|xs.getD n 0;have k:j8 (pad (put (tabs xs n).1<|xs.getD n 0) m) (J<|n+1)=(xs.getD n 0,pad (tabs xs n).1 m):=by
   rw[hr n<|bE _,rj (uC _ _).1 hm,By<|rg f];show(_,pad (pad _ _) m)=_;rw[xN d hm]
  show Me J n (j8 _<|J<|n+1).2++[(j8 _<|J<|n+1).1]=_;rw[k];show Me J n (pad (tabs xs n).1 m)++[xs.getD n 0]=_;rw[zd xs J n () m (λj g=>hr j ()) (),List.take_succ,aI,aH ()];rfl
theorem wY(xs:ag):∀(n:Nat),(∀q∈(tabs xs n).2,∀k∈q,1<=k/\k<=n)/\(∀k:Nat,k<n->∃q∈(tabs xs n).2,((k:Int)+1)∈q)/\∀k:Nat,k<n->wh (tabs xs n).2 ((k:Int)+1)=row (tabs xs k).1 (xs.getD k 0)
 | 0=>⟨(λq g=>nomatch g),λk f=>absurd f<|cL _,λk f=>absurd f<|cL _⟩
 | n+1=>by
  obtain⟨a,b,c⟩:=wY xs n;have e:(tabs xs<|n+1).2=add (tabs xs n).2 (row (tabs xs n).1<|xs.getD n 0) ((n:Int)+1):=rfl;rw[e];refine⟨λq g k f=>?_,λk f=>?_,λk f=>?_⟩
  ·rcases um.mp ⟨q,g,f⟩with z|⟨p,hp,z⟩
   ·lia
   ·have:=a p hp k z;lia
  ·by_cases d:k=n
   ·subst d;exact um.mpr (.inl rfl)
   ·exact um.mpr<|.inr<|b k ()
  ·by_cases d:k=n
   ·subst d;refine CB (λq g z=>?_) ?_
    ·have:=a q g _ z;lia
    ·have l:=cA List.length<|jH xs k;rw[aN,aN]at l;rw[l];exact(uC _ _).2
   ·rw[FY ()<|b k (),c k ()]
end Sy
namespace Sy
open Tb
theorem C6:∀{Q:List<|ag}{m:Int},jM Q->(∀q∈Q,∀k∈q,k<=m)->(∃q∈Q,m∈q)->∃Q',Q=add Q' (wh Q m) m/\jM Q'/\wh Q m<=Q'.length/\nB Q (wh Q m)/\Q.flatten.Perm (m::Q'.flatten) /\
  ∀u',Q'.head?=some u'->∃u,Q.head?=some u/\u' <+: u
 | [],m,_,_,h=>by obtain⟨q,Z,_⟩:=h;cases Z
 | q::Q,m,⟨h1,h2,h3,h4⟩,hm,hx=>by
  rw[mh];by_cases c:m∈q
  ·rw[aS c];have ql:0<q.length:=b8.mpr h1;have t:q[q.length-1]?=some m:=by
    obtain⟨i,hi,e⟩:=List.getElem_of_mem c;have a:=oq h2 (i:=i) (j:=q.length-1) () (aH hi)<|aH ();have b:=hm q (aM ..) _ (cU<|show q.length-1<q.length by lia);rw[aH ()];rw[e]at a;congr 1;lia
   have app:q.dropLast++[m]=q:=by
    have:=gz h1;have e:q.getLast h1=m:=by
     have:=eZ (l:=q);rw[t,gq h1]at this;exact aW this
    rw[e]at this;exact this
   have dl:q.dropLast.length=q.length-1:=eU;have f:∀u,Q.head?=some u->u.length<q.length:=λu d=>by
    have F:=h3 u d
    rcases dR u.length q.length with z|z
    ·exact z
    ·exfalso;have N:q.length-1<u.length:=()
     have:=F.2 (q.length-1) _ _ t<|aH N;have G:u∈Q:=List.mem_of_mem_head? (by rw[d];rfl);have:=hm u (aK _ G) _ (cU N)
     lia
   have B:nB (q::Q) 0:=⟨Nat.succ_pos _,λu d=>by
    rw[ee,<- fW]at d;have:=f u d;simpa using this⟩
   by_cases e:q.dropLast=[]
   ·have Y:Q=[]:=by
     cases Q with
     | nil=>rfl
     | cons u U=>
      have a:=f u rfl;have:=b8.mpr h4.1;rw[e]at dl;simp at dl
      lia
    subst Y;rw[e]at app;refine⟨[],?_,trivial,aO _,B,?_,λu' d=>by cases d⟩
    ·rw[<- app];rfl
    ·rw[<- app];exact dB _
   ·refine⟨q.dropLast::Q,?_,⟨e,h2.sublist<|List.dropLast_sublist _,λu d=>⟨?_,λj x y g hy=>?_⟩,h4⟩,bL _,B,?_,λu' d=>?_⟩
    ·show q::Q=(q.dropLast++[m])::Q;rw[app]
    ·have:=f u d;lia
    ·have W:=(aL.mp g).1;refine(h3 u d).2 j x y ?_ hy;rw[<- app,aR W];exact g
    ·show(q++Q.flatten).Perm (m::(q.dropLast++Q.flatten))
     conv=>lhs;rw[<- app]
     rw[br];exact cV
    ·cases d
     exact⟨q,rfl,List.dropLast_prefix _⟩
  ·rw[aU c];have g:∃p∈Q,m∈p:=by
    obtain⟨p,hp,J⟩:=hx
    rcases a_.mp hp with e|e
    ·rw[e]at J;exact absurd J c
    ·exact⟨p,e,J⟩
   obtain⟨Q',t1,t2,V,M,P,O⟩:=C6 h4 (λp hp=>hm p<|aK _ hp) g;refine⟨q::Q',cA (q::·) t1,⟨h1,h2,λu' d=>?_,t2⟩,by simpa using V,⟨gg M.1,λu d=>?_⟩,?_,λu' d=>⟨q,rfl,by cases d;exact cN _⟩⟩
   ·obtain⟨u,L,C⟩:=O u' d;have F:=h3 u L;refine⟨bC C.length_le F.1,λj x y K hy=>F.2 j x y K ?_⟩;obtain⟨w,rfl⟩:=C;rw[aR (aL.mp hy).1];exact hy
   ·rw[ee]at d;have:=M.2 u d;simpa using this
   ·show(q++Q.flatten).Perm (m::(q++Q'.flatten));exact((List.Perm.append_left q P).trans cV)
theorem yF:∀{l l':am}{a:Nat},(∀k∈l,0<k)->(∀k∈l',0<k)->a<=l.length->a<=l'.length->bump l a=bump l' a->l=l'
 | [],[],_,_,_,_,_,_=>rfl
 | [],n::l',a,_,h',ha,_,e=>by
  have:a=0:=by simpa using ha
  subst this;have e:[1]=(n+1)::l':=e;have:=h' n (aM ..)
  injection e with e1 e2
  lia
 | n::l,[],a,h,_,_,ha,e=>by
  have:a=0:=by simpa using ha
  subst this;have e:(n+1)::l=[1]:=e;have:=h n (aM ..)
  injection e with e1 e2
  lia
 | n::l,k::l',0,_,_,_,_,e=>by
  have e:(n+1)::l=(k+1)::l':=e
  injection e with e1 e2
  rw[e2,show n=k by lia]
 | n::l,k::l',a+1,h,h',ha,ha',e=>by
  have e:n::bump l a=k::bump l' a:=e
  injection e with e1 e2
  rw[e1,yF (λz d=>h z<|aK _ d) (λz d=>h' z<|aK _ d) (by simpa using ha) (by simpa using ha') e2]
theorem rE:∀{T:List<|ag},jM T->∀k∈T.map List.length,0<k
 | [],_,k,h=>nomatch h
 | q::T,⟨h1,_,_,h4⟩,k,h=>by
  rcases a_.mp h with e|e
  ·rw[e];exact b8.mpr h1
  ·exact rE h4 k e
end Sy
namespace K63
open PySem L2 Am
def MI{r:Nat}{R:ag}{y z:Int}{q:Nat}(h:iC S r=some (R.map .int))(M:R.length<=1000)(hI:Sy.vK R)(J:R[q]?=some z)(L:z<y):jX [.ref r,.int y] S=.ok (.int (Sy.ls R y:Nat)) S:=by
 obtain⟨m,B,f,j⟩:=Sy.xU hI J L;unfold jX mP mZ;dsimp[i8,bools,mj,Nat.reduceAdd,Nat.reduceSub,h,aN];refine pJ (λτ d=>d=S/\∃p:Nat,Sy.ls R y<=p/\p<R.length/\τ=[.ref r,.int y,.int (p:Int)])
  (λτ _=>match τ with
   | [_,_,.int i]=>i.toNat
   | _=>0)
  (λt=>RS.end (RS.seq t _)=.ok (.int (Sy.ls R y:Nat)) S) ?_ 1000000 _ _ ⟨rfl,R.length-1,(),(),cA (λz=>[A.ref r,A.int y,A.int z]) ()⟩ ?_
 ·rintro τ d ⟨rfl,p,p1,p2,rfl⟩;have g:oY (R.map A.int) (p:Int)=some (.int R[p]):=uc (k:=p) rfl<|aH p2;unfold nS nX;dsimp[i8,bools,h,g];by_cases c:p=Sy.ls R y
  ·left;have:=f p _ ()<|aH p2;refine⟨d,by rw[bx ()],?_⟩;dsimp[i8,bools,c]
  ·right;have:=j p _ ()<|aH p2;refine⟨d,by rw[bh ()],.inl ⟨_,_,rfl,⟨rfl,p-1,(),(),cA (λz=>[A.ref r,A.int y,A.int z]) ()⟩,?_⟩⟩;show((p:Int)-1).toNat<(p:Int).toNat
   lia
 ·show((R.length:Int)-1).toNat<1000000
  lia
end K63
namespace K63
open PySem L2 Am
def Ii{lo hi:Int}{c:Sm}{src:Ic}{τ:ae}(hs:src τ S=.ok (wk lo hi) S1)(Inv:Nat->ae->iH->Prop)(J:RS->Prop)(h0:Inv 0 τ S1)
  (step:∀(i:Nat) τ S,i<(lo-hi).toNat->Inv i τ S->(∃τ' S',c (τ.set j<|.int<|lo-i) S=.nx τ' S'/\Inv (i+1) τ' S')\/(∃a S',c (τ.set j<|.int<|lo-i) S=.rt a S'/\J (.rt a S')))
  (L:∀τ S,Inv (lo-hi).toNat τ S->J (.nx τ S)):J (m8 src (je j) c τ S):=by
 unfold m8;rw[hs];refine sA (s:=wk lo hi) Inv J (λi τ S d h=>?_) (λτ S h=>⟨rfl,L τ S h⟩) _ 0 τ S1 rfl h0;have d:i<(lo-hi).toNat:=d;exact⟨.int<|lo-i,_,S,aS d,rfl,step i τ S d h⟩
open Sy (j8 ls vK)
abbrev Tn (U:List<|ag)(a:Nat):Prop:=a<U.length/\U.getD a []≠[]/\∀j,j<a->vK (U.getD j [])/\∃(q:Nat) (z:Int),(U.getD j [])[q]?=some z/\z<(j8 (U.drop<|j+1)<|a-j-1).1
def kI{U:List<|ag}(h:j<U.length):U.drop j=U.getD j []::U.drop (j+1):=by
 rw[aI,aH h];exact bO h
def CH{U:List<|ag}{r:ag}(h:j<U.length)(e:U.getD j []=r):(U.take (j+1)++W).set j r'=U.take j++r'::W:=by
 rw[List.take_succ,aH h];show(U.take j++[U[j]]++W).set j r'=_;rw[br,cS _ _<|by rw[b_];lia,b_,Nat.min_eq_left (),bW];rfl
def Fl{U:List<|ag}{k:Nat}(h:j<k)(J:k<=U.length):(U.take k++W).getD j []=U.getD j []:=by
 rw[aI,aR<|by rw[b_];lia,fy h,<- aI]
def KJ{n a:Nat}{rs:am}{U:List<|ag}(h:Tab S n rs U)(ok:Tn U a)(hl:U.length<=1000)(hr:∀i,(U.getD i []).length<=1000) :
  ∃S',mH [.ref n,.int (a:Int)] S=.ok (.int (j8 U a).1) S'/\Tab S' n rs (j8 U a).2/\Kp (·∈rs) S S':=by
 obtain⟨g,o2,V⟩:=ok;have len:=h.len;have d:∀j,j<U.length->rs[j]?=some (rs.getD j 0):=λj t=>by rw[aI,aH ()];rfl
 have f:∀j,j<U.length->rs.getD j 0∈rs:=λj t=>bz<|d j t;have top:∀j,j<U.length->oY (rs.map A.ref) (j:Int)=some (.ref<|rs.getD j 0):=λj t=>oB (k:=j) rfl (by rw[aY,d j t];rfl);have M:=(h.rows.get<|d a g).2;have l0:0<(U.getD a []).length:=b8.mpr o2;have B:OM (.ref<|rs.getD a 0) [] S=.ok (.int<|(U.getD a []).getLastD 0) (S.set (rs.getD a 0)<|.lst<|(U.getD a []).dropLast.map .int):=by
  show opt (iC S<|rs.getD a 0) _=_;rw[M,iU];show opt (((U.getD a []).map A.int)[((U.getD a []).map A.int).length-1]?) _=_;rw[aN,aY,aH ()];show R.ok (A.int _) (S.set _<|.lst ((U.getD a []).map A.int).dropLast)=_;rw[<- List.map_dropLast,eY,eZ,aH ()];rfl
 have t0:=h.set (ys:=(U.getD a []).dropLast)<|d a g;have e0:U.set a (U.getD a []).dropLast=U.take a++(j8 (U.drop a)<|a-a).2:=by
  have:=CH (U:=U) (W:=U.drop<|a+1) (r':=(U.getD a []).dropLast) g rfl;rw[cT]at this;rw[this,kI g,bW];rfl
 rw[e0]at t0;have P:Kp (·∈rs) S (S.set (rs.getD a 0)<|.lst<|(U.getD a []).dropLast.map .int):=Kp.refl.set<|.inl<|f a g;have Z:(U.getD a []).getLastD 0=(j8 (U.drop a)<|a-a).1:=by rw[kI g,bW];rfl
 obtain⟨C,G⟩:∃C,C=S.set (rs.getD a 0) (.lst<|(U.getD a []).dropLast.map .int):=⟨_,rfl⟩;rw[<- G]at B t0 P;unfold mH qN qO;dsimp[i8,bools,mj,Nat.reduceAdd,Nat.reduceSub,h.top,top a g,B,M,Z];refine Ii (lo:=(a:Int)-1) (hi:=-1) (S1:=C) (show rT _ _=_ from yG (S1:=C) (S2:=C) (by dsimp[i8,bools]) (by dsimp[i8,bools]) (by dsimp[i8,bools]) (mU () ())<|mU ⋯ ⋯)
  (λi τ S'=>(∃J K,τ=[.ref n,.int (a:Int),.int (j8 (U.drop<|a-i) i).1,J,K])/\Tab S' n rs (U.take (a-i)++(j8 (U.drop<|a-i) i).2)/\Kp (·∈rs) S S')
  (λr=>∃S',RS.end (RS.seq r _)=.ok (.int (j8 U a).1) S'/\Tab S' n rs (j8 U a).2/\Kp (·∈rs) S S') ⟨⟨_,_,by rw[bW];rfl⟩,by rw[bW]at t0;exact t0,P⟩ ?_ ?_
 ·rintro i τ S1 hi ⟨⟨J,K,rfl⟩,t1,k1⟩;left;obtain⟨j,t⟩:∃j,a-i=j+1:=⟨a-i-1,()⟩;have Y:a-(i+1)=j:=()
  have m:j<U.length:=()
  rw[t]at t1 ⊢;obtain⟨c1,q,z,c2,L⟩:=V j ();rw[show a-j-1=i by lia]at L;have g1:=(t1.rows.get<|d j m).2;rw[Fl (bE _) ()]at g1;have lk:=MI (S:=S1) g1 (hr j) c1 c2 L;obtain⟨_,O,_,_⟩:=Sy.xU c1 c2 L;have F:=zS (r:=U.getD j []) (i:=(ls (U.getD j []) (j8 (U.drop<|j+1) i).1:Nat)) rfl O;have t2:=t1.set (ys:=(U.getD j []).set (ls (U.getD j []) (j8 (U.drop<|j+1) i).1) (j8 (U.drop<|j+1) i).1)<|d j m;rw[CH m rfl]at t2;have ix:zL (U.getD j []).length ((ls (U.getD j []) (j8 (U.drop<|j+1) i).1:Nat):Int)=some (ls (U.getD j []) (j8 (U.drop<|j+1) i).1):=xA rfl O;unfold qZ;rw[show(a:Int)-1-(i:Int)=(j:Int)by lia];dsimp[i8,bools,t1.top,top j m,lk,g1,F,qH<|show([_,_]:ae).length<=16777216 by simp,j7<|show([_,_]:ae).length=2 from rfl,aN,ix,<- map_set];rw[Y,kI m];exact⟨_,_,rfl,⟨_,_,rfl⟩,t2,k1.set<|.inl<|f j m⟩
 ·rintro τ S1 ⟨⟨J,K,rfl⟩,t1,k1⟩;have N:(((a:Int)-1)-(-1)).toNat=a:=()
  rw[N,bW,c6]at t1;refine⟨S1,?_,by simpa using t1,k1⟩;rw[N,bW,c6];dsimp[i8,bools]
end K63
namespace K63
open PySem L2 Am
theorem nZ:∀{T:List<|ag}(k:Nat),Sy.jM T->Sy.jM (T.drop k)
 | [],k,_=>by rw[List.drop_nil];trivial
 | r::T,0,h=>h
 | r::T,k+1,h=>nZ k h.2.2.2
def Ck{T:List<|ag}(h:Sy.jM T)(J:j<T.length)(L:(T.drop<|j+1).head?=some u):Sy.Fits u (T.getD j []):=by
 have:=nZ j h;rw[kI J]at this;exact this.2.2.1 u L
def B3{T:List<|ag}(h:j<T.length):(Sy.pad T m).getD j []=T.getD j []:=by
 unfold Sy.pad;rw[aI,aR h,<- aI]
def IW{T:List<|ag}{k:Nat}(h:k<=T.length):(Sy.pad T m).drop k=Sy.pad (T.drop k) (m-k):=by
 unfold Sy.pad;rw[List.drop_append_of_le_length h,dY];congr 2
 lia
def MC{T:List<|ag}{a:Nat}(h:Sy.jM T)(c:Sy.nB T a)(hm:T.length<=m):Tn (Sy.pad T m) a:=by
 have hg:∀j,j<T.length->T.getD j []∈T:=λj g=>by
  rw[aI,aH g];exact cU g
 refine⟨by unfold Sy.pad;rw[aV];have:=c.1;lia,?_,λj g=>?_⟩
 ·rw[B3 c.1];have:=nZ a h;rw[kI c.1]at this;exact this.1
 ·have f:j<T.length:=by have:=c.1;lia
  have F:=c.1;rw[B3 f,IW ()];refine⟨Sy.rg h _<|hg j f,?_⟩;have B:Sy.nB (T.drop<|j+1) (a-j-1):=by
   refine⟨by rw[dY];lia,λu d=>?_⟩;rw[gO,show j+1+(a-j-1+1)=a+1 by lia]at d;have:=c.2 u d;rw[aI,gO,show j+1+(a-j-1)=a by lia,<- aI];exact this
  rw[Sy.rj B.1<|by rw[dY];lia];obtain⟨_,_,_,_,_,_,u,q,d,t,_⟩:=Sy.uo (nZ (j+1) h) B;have z:=Ck h f d;have C:=(aL.mp t).1;have k:q<(T.getD j []).length:=by have:=z.1;lia
  exact⟨q,_,aH k,z.2 q _ _ (aH k) t⟩
end K63
namespace K63
open PySem L2 Am
def Rz{f g:A->A->iH->R A}{ca cb cc:Ex}{a:A}(h1:ca τ S=.ok a S)(h2:cb τ S=.ok b S)(j:f a b S=.ok (.bl true) S)(J:cc τ S=.ok c S):O6 f g ca cb cc τ S=g b c S:=by
 unfold O6;rw[h1,R.jR,h2,R.jR,j,R.jR];unfold TX;show(cc τ S).bind _=_;rw[J];rfl
def Ei{x:Int}(h1:1<=x)(h2:x<=1000000000):kH [.int x] S=.ok (.bl true) S:=by
 have e:mF [.int x] S=.ok (.bl true) S:=by
  unfold mF qJ qx;dsimp[i8,bools,mj,Nat.reduceAdd,Nat.reduceSub,show zz .int "int" = some true from rfl,show zz .int "bool" = some false from rfl,Bool.not_false]
 unfold kH pH pM;dsimp[i8,Pw,bools,mj,Nat.reduceAdd,Nat.reduceSub,e,Rz (f:=xZ) (g:=xZ) (ca:=eC<|.int 1) (cb:=iB 0) (cc:=eC<|.int 1000000000) (τ:=[.int x]) (S:=S) (a:=.int 1) (b:=.int x) (c:=.int 1000000000) rfl (by dsimp[i8]) (by dsimp[i8,bools,bh h1]) rfl,bh h2]
def all_true{S:iH}{α:Type}(l:List α):DH (.ref S.length) (S++[O.lst<|(l.map λ_=>true).map A.bl])=.ok (.bl true) (S++[O.lst<|(l.map λ_=>true).map A.bl]):=by
 show opt (iC _ S.length) _=_;rw[iW,iU,Bh,iU];congr 2;simp
def xH{r:Nat}{R:ag}(h:iC S r=some (R.map .int))(j:R.length<=1000)(hb:∀x∈R,1<=x/\x<=1000000000):∃S',kL [.ref r] S=.ok (.bl true) S'/\mQ S S':=by
 have d:=uG (cap:=[]) (t:=jK) (e:=eFn kH<|iD (iB 0) iO) (τ:=[.ref r]) (src:=jW<|iB 0) (k_ (by dsimp[i8,bools]) h) h (λ_=>true) (λ_=>.bl true)
  (λx hx=>by dsimp[i8,bools]) (λx hx _=>by
   obtain⟨v,hv,rfl⟩:=bK.mp hx;dsimp[i8,bools,Ei (hb v hv).1 (hb v hv).2]) (by rw[aN];lia)
 have f:((R.map A.int).filter λ_=>true).map (λ_=>A.bl true)=(R.map λ_=>true).map A.bl:=by
  rw[cR.mpr λ_ _=>rfl,bM,bM];rfl
 rw[f]at d;unfold kL ou n9;dsimp[i8,bools,mj,Nat.reduceAdd,Nat.reduceSub,h,map_some,show zz .lst "list" = some true from rfl,d,all_true];exact⟨_,rfl,Kp.refl.lay⟩
def DW{R:ag}(h:Sy.vK R):sortI R=R:=(sortI_perm R).eq_of_pairwise (λ_ _ _ _ a b=>gx a b) (rK R) h
def J_{r:Nat}{R:ag}(h:iC S r=some (R.map .int))(j:R.length<64)(hb:∀x∈R,1<=x/\x<=1000000000)(hn:R≠[])(hI:Sy.vK R):∃S',jy [.ref r] S=.ok (.bl true) S'/\mQ S S':=by
 obtain⟨S1,e1,k1⟩:=xH h () hb;have h1:=k1.lst _ _ (λz=>z) h;have es:vp (.ref r) S1=.ok (.ref S1.length) (S1++[.lst<|R.map .int]):=by
  show opt (iC S1 r) _=_;rw[h1,iU];rw[ints_map,iU,j7 j,DW hI]
 have h2:iC (S1++[O.lst<|R.map .int]) r=some (R.map .int):=lC h1;have d:=zX<|zb (a:=r) (b:=S1.length) h2 iW;rw[bh rfl]at d;have f:(0:Int)<(R.length:Int):=by have:=b8.mpr hn;lia
 unfold jy mR mT;dsimp[i8,Pw,bools,mj,Nat.reduceAdd,Nat.reduceSub,e1,h1,aN,bh f,es,d];exact⟨_,rfl,k1.lay⟩
end K63
namespace K63
open PySem L2 Am
def Ky{r q:Nat}{R U:ag}(hr:iC S r=some (R.map .int))(J:iC S q=some (U.map .int))(M:R.length<=1000)(L:Sy.Fits U R):∃S',jQ [.ref q,.ref r] S=.ok (.bl true) S'/\mQ S S':=by
 have C:=L.1;have d:wC (iB 1) (iB 0) [.ref q,.ref r] S=.ok (v9 r q<|min (R.map A.int).length (U.map A.int).length) S:=Iu (S1:=S) (by dsimp[i8,bools]) (by dsimp[i8,bools]) hr J;have m:min (R.map A.int).length (U.map A.int).length=U.length:=by rw[aN,aN];lia
 rw[m]at d;obtain⟨S',g1,g2⟩:=oJ (s:=v9 r q U.length) (g:=Ak 2<|tN (je 0)<|tN (je 1) CC) (t:=jK) (e:=iR EA (iB 0)<|iB 1)
  (P:=λS1=>S1=S) (T:=λf=>∃y z,f=[y,z])
  (λi=>.tup [.int<|R.getD i 0,.int<|U.getD i 0]) (λ_=>true) (λ_=>.bl true)
  (λi S1 hi e=>by
   subst e;have hi:i<U.length:=hi;show(iC S1 r).bind _=_;rw[hr];show(iC S1 q).bind _=_;rw[J];show((R.map A.int)[i]?).bind _=_;rw[aY,aH (),aY,aH hi,aI,aH (),aI,aH hi];rfl)
  (λS1 e=>by
   subst e;show(match iC S1 r,iC S1 q with|some xs,some ys=>_|_,_=>_)=true;rw[hr,J];simp)
  (λi τ S1 hi ⟨y,z,e⟩ j=>by
   subst e j;have hi:i<U.length:=hi;have lt:=L.2 i (R.getD i 0) (U.getD i 0) (by rw[aI,aH ()];rfl) (by rw[aI,aH hi];rfl);refine⟨[.int<|R.getD i 0,.int<|U.getD i 0],S1,S1,by dsimp[i8,bools,j7<|show([_,_]:ae).length=2 from rfl],by dsimp[i8,bools],⟨_,_,rfl⟩,(λz=>by cases z),λ_=>⟨S1,by dsimp[i8,bools,bh lt],rfl⟩⟩)
  U.length 0 [.unb,.unb] S (by show U.length+0=U.length;lia) ⟨_,_,rfl⟩ rfl
 subst g2;have B:((List.range' 0 U.length).filter λ_=>true).map (λ_=>A.bl true)=(U.map λ_=>true).map A.bl:=by
  rw[cR.mpr λ_ _=>rfl,bM,eL,fG];show _=U.map λ_=>A.bl true;rw[eL]
 rw[B]at g1;have k:jE [none,none] (wC (iB 1)<|iB 0) (Ak 2<|tN (je 0)<|tN (je 1) CC) jK (iR EA (iB 0)<|iB 1) [.ref q,.ref r] S'=.ok (.ref S'.length) (S'++[.lst<|(U.map λ_=>true).map A.bl]):=by
  unfold jE;rw[d,Am.R.jR];show Am.R.jh (jS (v9 r q U.length) _ _ _ U.length 0 [.unb,.unb] S') _=_;rw[g1,Am.R.jc,jv<|by simp;lia]
 unfold jQ oH oF;dsimp[i8,Pw,bools,mj,Nat.reduceAdd,Nat.reduceSub,hr,J,aN,bh<|show(U.length:Int)<=(R.length:Int)by lia,k,all_true];exact⟨_,rfl,Kp.refl.lay⟩
abbrev D4 (T:List<|ag):Prop:=∀r∈T,∀x∈r,1<=x/\x<=1000000000
def yg{n:Nat}{T:List<|ag}(h:Tab S n rs T)(ht:Sy.jM T)(hb:D4 T)(hl:T.length<=1000)(hr:∀i,(T.getD i []).length<64):∃S',k7 [.ref n] S=.ok (.bl true) S'/\mQ S S':=by
 have len:=h.len;have d:∀j,j<T.length->rs[j]?=some (rs.getD j 0):=λj C=>by rw[aI,aH ()];rfl
 have m:∀j,j<T.length->T.getD j []∈T:=λj C=>by rw[aI,aH C];exact cU C
 have Z:∀j,j<T.length->T.getD j []≠[]:=λj C=>by
  have:=nZ j ht;rw[kI C]at this;exact this.1
 obtain⟨S1,g1,g2⟩:=oJ (s:=jd n T.length) (g:=je 0) (t:=jK) (e:=eFn jy<|iD (iB 0) iO)
  (P:=λS1=>mQ S S1) (T:=λf=>∃y,f=[y])
  (λi=>.ref<|rs.getD i 0) (λ_=>true) (λ_=>.bl true)
  (λi S1 hi k=>by
   have hi:i<T.length:=hi;show(iC S1 n).bind _=_;rw[k.lst _ _ (λz=>z) h.top];show(rs.map A.ref)[i]?=_;rw[aY,d i hi];rfl)
  (λS1 k=>by
   show(match iC S1 n with|some xs=>_|none=>_)=true;rw[k.lst _ _ (λz=>z) h.top];simp[len])
  (λi τ S1 hi ⟨y,e⟩ k=>by
   subst e;have hi:i<T.length:=hi;have B:=k.lst _ _ (λz=>z) (h.rows.get<|d i hi).2;obtain⟨S2,e2,k2⟩:=J_ B (hr i) (hb _<|m i hi) (Z i hi)<|Sy.rg ht _<|m i hi;exact⟨[.ref<|rs.getD i 0],S1,S1,by dsimp[i8,bools],by dsimp[i8,bools],⟨_,rfl⟩,(λz=>by cases z),λ_=>⟨S2,by dsimp[i8,bools,e2],k.trans k2⟩⟩)
  T.length 0 [.unb] S (by show T.length+0=T.length;lia) ⟨_,rfl⟩ Kp.refl
 have Y:((List.range' 0 T.length).filter λ_=>true).map (λ_=>A.bl true)=(T.map λ_=>true).map A.bl:=by
  rw[cR.mpr λ_ _=>rfl,bM,eL,fG];show _=T.map λ_=>A.bl true;rw[eL]
 rw[Y]at g1;have M:jE [none] (jW<|iB 0) (je 0) jK (eFn jy<|iD (iB 0) iO) [.ref n] S=.ok (.ref S1.length) (S1++[.lst<|(T.map λ_=>true).map A.bl]):=by
  unfold jE;rw[k_ (S1:=S) (by dsimp[i8,bools]) h.top,Am.R.jR,aN,len];show Am.R.jh (jS (jd n T.length) _ _ _ T.length 0 [.unb] S) _=_;rw[g1,Am.R.jc,jv<|by simp;lia]
 obtain⟨S2,F⟩:∃S2,S2=S1++[O.lst<|(T.map λ_=>true).map A.bl]:=⟨_,rfl⟩;have k2:mQ S S2:=by rw[F];exact g2.lay
 have h2:=h.wR k2;have L:=all_true (S:=S1) T;rw[<- F]at M L;obtain⟨S3,N,W⟩:=oJ (s:=oO 1 (T.length:Int)) (g:=je 0) (t:=jK) (e:=eFn jQ<|iD (iR o6 (iB 1)<|iB 0)<|iD (iR o6 (iB 1)<|iR aSub (iB 0)<|eC<|.int 1) iO)
  (P:=λS1=>mQ S2 S1) (T:=λf=>∃y,f=[y,.ref n])
  (λi=>.int<|1+(i:Int)) (λ_=>true) (λ_=>.bl true)
  (λi S1 hi k=>aS hi) (λS1 k=>rfl)
  (λi τ S1 hi ⟨y,e⟩ k=>by
   subst e;have hi:i<((T.length:Int)-1).toNat:=hi;have J:=h2.wR k;have t1:oY (rs.map A.ref) (1+(i:Int))=some (.ref<|rs.getD (i+1) 0):=oB (k:=i+1) () (by rw[aY,d (i+1) ()];rfl);have t2:oY (rs.map A.ref) (1+(i:Int)-1)=some (.ref<|rs.getD i 0):=oB (k:=i) () (by rw[aY,d i ()];rfl);have V:Sy.Fits (T.getD (i+1) []) (T.getD i []):=Ck ht () (by rw[kI<|show i+1<T.length by lia];rfl);obtain⟨S4,e4,U⟩:=Ky (J.rows.get<|d i ()).2 (J.rows.get<|d (i+1) ()).2 (by have:=hr i;lia) V;exact⟨[.int<|1+(i:Int),.ref n],S1,S1,by dsimp[i8,bools],by dsimp[i8,bools],⟨_,rfl⟩,(λz=>by cases z),λ_=>⟨S4,by dsimp[i8,bools,J.top,t1,t2,e4],k.trans U⟩⟩)
  ((T.length:Int)-1).toNat 0 [.unb,.ref n] S2 (by show _+0=((T.length:Int)-1).toNat;lia) ⟨_,rfl⟩ Kp.refl
 have G:((List.range' 0 ((T.length:Int)-1).toNat).filter λ_=>true).map (λ_=>A.bl true)=((List.range ((T.length:Int)-1).toNat).map λ_=>true).map A.bl:=by
  rw[cR.mpr λ_ _=>rfl,bM,eL,fG];show _=(List.range _).map λ_=>A.bl true;rw[eL,gV]
 rw[G]at N;have K:jE [none,some 0] (uX (eC<|.int 1)<|iY (f1 kX)<|iD (iB 0) iO) (je 0) jK (eFn jQ<|iD (iR o6 (iB 1)<|iB 0)<|iD (iR o6 (iB 1)<|iR aSub (iB 0)<|eC<|.int 1) iO) [.ref n] S2=.ok (.ref S3.length) (S3++[.lst<|((List.range ((T.length:Int)-1).toNat).map λ_=>true).map A.bl]):=by
  unfold jE;rw[Gp (S1:=S2) (S2:=S2) (i:=1) (j:=(T.length:Int)) (by dsimp[i8,bools]) (by dsimp[i8,bools,h2.top,aN,len]) (mU ⋯ ⋯)<|mU () (),Am.R.jR];show Am.R.jh (jS (oO 1 (T.length:Int)) _ _ _ ((T.length:Int)-1).toNat 0 [.unb,.ref n] S2) _=_;rw[N,Am.R.jc,jv<|by simp;lia]
 unfold k7 qE qz;dsimp[i8,Pw,bools,mj,Nat.reduceAdd,Nat.reduceSub,h.top,map_some,show zz .lst "list" = some true from rfl,fE,M,L,K,all_true];exact⟨_,rfl,(k2.trans W).lay⟩
end K63
namespace K63
open PySem L2 Am
theorem LS{r:Nat}{R:ag}(h:iC S r=some (R.map .int)):∀(k t:Nat) (x1:A),k+t=R.length->∃x1',lT (jd r R.length) (je 1) jK (iB 1) k t [a0,x1] S=.ok ((R.drop t).map .int,[a0,x1']) S
 | 0,t,x1,e=>by
  refine⟨x1,?_⟩;have hf:(jd r R.length).fin S=true:=by
   show(match iC S r with
    | some ys=>decide (ys.length<=R.length)
    | none=>false)=true
   rw[h];simp
  unfold lT;rw[aS hf,dc ()];rfl
 | k+1,t,x1,e=>by
  have d:t<R.length:=()
  obtain⟨x1',e1⟩:=LS (a0:=a0) h k (t+1) (.int R[t]) ();refine⟨x1',?_⟩;have hg:(jd r R.length).get t S=some (.int R[t]):=by
   show(iC S r).bind _=_;rw[h,cG,aY,aH d];rfl
  unfold lT;dsimp[i8,bools,hg,e1];rw[bO d];rfl
theorem Cr{n:Nat}{T:List<|ag}(h:Tab S n rs T):∀(k t:Nat) (x0 x1:A),k+t=T.length->kE (jd n T.length) (je 0) jK (jW<|iB 0) (je 1) jK (iB 1) k t [x0,x1] S=.ok ((T.drop t).flatten.map .int) S
 | 0,t,x0,x1,e=>by
  have hf:(jd n T.length).fin S=true:=by
   show(match iC S n with
    | some ys=>decide (ys.length<=T.length)
    | none=>false)=true
   rw[h.top];simp[h.len]
  unfold kE;rw[aS hf,dc ()];rfl
 | k+1,t,x0,x1,e=>by
  have g:t<T.length:=()
  have j:=h.len;have hi:t<rs.length:=()
  have d:=(h.rows.get (i:=t) (r:=rs[t])<|aH hi).2;have hg:(jd n T.length).get t S=some (.ref rs[t]):=by
   show(iC S n).bind _=_;rw[h.top,cG,aY,aH hi];rfl
  obtain⟨f,e1⟩:=LS (a0:=.ref rs[t]) d (T.getD t []).length 0 x1 rfl;have e2:=Cr h k (t+1) (.ref rs[t]) f ();have hs:jW (iB 0) [.ref rs[t],x1] S=.ok (jd rs[t] ((T.getD t []).map A.int).length) S:=k_ (by dsimp[i8,bools]) d;rw[aN]at hs;unfold kE;dsimp[i8,bools,hg,hs];show R.jh (lT (jd rs[t] (T.getD t []).length) (je 1) jK (iB 1) (T.getD t []).length 0 [.ref rs[t],x1] S) _=_;rw[e1,R.jc];show R.jh (kE (jd n T.length) (je 0) jK (jW<|iB 0) (je 1) jK (iB 1) k (t+1) [.ref rs[t],f] S) _=_;rw[e2,R.jc,c6,kI g,bS,bV]
def GB{N:Nat}{l:ag}(h:l.Perm<|jZ 1<|(N:Int)+1):sortI l=jZ 1 ((N:Int)+1):=
 ((sortI_perm l).trans h).eq_of_pairwise (λ_ _ _ _ a b=>gx a b) (rK l) (by
  unfold jZ;rw[eS];exact List.pairwise_lt_range.imp<|by intro a b h;lia)
def Kx{n N:Nat}{P Q:List<|ag}(h:Tab S n rs P)(h':Tab S m qs Q)(tp:Sy.jM P)(tq:Sy.jM Q)(bp:D4 P)(bq:D4 Q)(hs:P.map List.length=Q.map List.length)(hN:N<=40)(hp:Q.flatten.Perm<|jZ 1<|(N:Int)+1)
  (l1:P.length<=1000) (l2:Q.length<=1000) (r1:∀i,(P.getD i []).length<64) (r2:∀i,(Q.getD i []).length<64):∃S',ju [.ref n,.ref m] S=.ok (.bl true) S'/\mQ S S':=by
 obtain⟨S1,e1,k1⟩:=yg h tp bp l1 r1;have h1:=h.wR k1;have F:=h'.wR k1;obtain⟨S2,e2,k2⟩:=yg F tq bq l2 r2;have h2:=h1.wR k2;have G:=F.wR k2;have K:j6 [.ref n] S2=.ok (.ref S2.length) (S2++[.lst<|(P.map λr=>(r.length:Int)).map .int]):=by
  unfold j6 rR rQ;dsimp[i8,bools,mj,Nat.reduceAdd,Nat.reduceSub,sH (cap:=[]) (src:=jW<|iB 0) (τ:=[.ref n]) h2 (k_ (by dsimp[i8,bools]) h2.top) ()]
 obtain⟨S3,B⟩:∃S3,S3=S2++[O.lst<|(P.map λr=>(r.length:Int)).map .int]:=⟨_,rfl⟩;have Z:mQ S2 S3:=by rw[B];exact Kp.refl.lay
 have x3:iC S3 S2.length=some ((P.map λr=>(r.length:Int)).map .int):=by rw[B];exact iW
 rw[<- B]at K;have g:=G.wR Z;have Y:j6 [.ref m] S3=.ok (.ref S3.length) (S3++[.lst<|(Q.map λr=>(r.length:Int)).map .int]):=by
  unfold j6 rR rQ;dsimp[i8,bools,mj,Nat.reduceAdd,Nat.reduceSub,sH (cap:=[]) (src:=jW<|iB 0) (τ:=[.ref m]) g (k_ (by dsimp[i8,bools]) g.top) ()]
 obtain⟨S4,j⟩:∃S4,S4=S3++[O.lst<|(Q.map λr=>(r.length:Int)).map .int]:=⟨_,rfl⟩;have J:mQ S3 S4:=by rw[j];exact Kp.refl.lay
 have x4:iC S4 S3.length=some ((Q.map λr=>(r.length:Int)).map .int):=by rw[j];exact iW
 rw[<- j]at Y;have f:=g.wR J;have es:(P.map λr=>(r.length:Int))=Q.map λr=>(r.length:Int):=by
  have:=cA (List.map λk:Nat=>(k:Int)) hs;rw[bM,bM]at this;exact this
 have V:=xh<|zb (J.lst _ _ (λz=>z) x3) x4;rw[bh es,fE]at V;have fl:Q.flatten.length=N:=by rw[hp.length_eq,qW];lia
 have M:xg [none,none] (jW<|iB 1) (je 0) jK (jW<|iB 0) (je 1) jK (iB 1) [.ref n,.ref m,.unb] S4=.ok (.ref S4.length) (S4++[.lst<|Q.flatten.map .int]):=by
  have e:=Cr f Q.length 0 .unb .unb rfl;rw[c6]at e;unfold xg;rw[k_ (S1:=S4) (by dsimp[i8,bools]) f.top,R.jR,aN,f.len];show R.jh (kE (jd m Q.length) _ _ _ _ _ _ Q.length 0 [.unb,.unb] S4) _=_;rw[e,R.jc,jv<|by rw[aN];lia]
 obtain⟨S5,t⟩:∃S5,S5=S4++[O.lst<|Q.flatten.map .int]:=⟨_,rfl⟩;have k5:mQ S4 S5:=by rw[t];exact Kp.refl.lay
 have x5:iC S5 S4.length=some (Q.flatten.map .int):=by rw[t];exact iW
 rw[<- t]at M;have W:vp (.ref S4.length) S5=.ok (.ref S5.length) (S5++[.lst<|(jZ 1<|(N:Int)+1).map .int]):=by
  show opt (iC S5 S4.length) _=_;rw[x5,iU,ints_map,iU,j7 (),GB hp]
 obtain⟨C,d⟩:∃C,C=S5++[O.lst<|(jZ 1<|(N:Int)+1).map .int]:=⟨_,rfl⟩;have k6:mQ S5 C:=by rw[d];exact Kp.refl.lay
 have L:iC C S5.length=some ((jZ 1<|(N:Int)+1).map .int):=by rw[d];exact iW
 rw[<- d]at W;have rl:(jZ 1<|(N:Int)+1).length=N:=by rw[qW];lia
 unfold ju j_ ki;dsimp[i8,Pw,bools,mj,Nat.reduceAdd,Nat.reduceSub,e1,e2,K,Y,V,fE,M,W,L,aN,rl,bh<|show(N:Int)<=40 by lia];rw[D6<|GL (show(-1000000:Int)<=1 by decide) ⋯ (show -1000000<=(N:Int)+1 by lia) () (),R.jR];have x7:iC (C++[O.lst<|(jZ 1<|(N:Int)+1).map .int]) S5.length=some ((jZ 1<|(N:Int)+1).map .int):=lC L;have U:=zX<|zb (a:=S5.length) (b:=C.length) x7 iW;rw[bh rfl]at U;rw[U];exact⟨_,rfl,((((((k1.trans k2).trans Z).trans J).trans k5).trans k6).lay)⟩
end K63
namespace K63
open PySem L2 Am
abbrev qi:Nat->List (ag)->List (Int×A)
 | _,[]=>[]
 | t,q::Q=>(q.map λk=>(k,A.int (t:Int)))++qi (t+1) Q
def DQ{kvs:List<|Int×A}{k:Int}(h:k∉kvs.map (·.1)):kQ kvs k=none:=by
 unfold kQ;rw[List.find?_eq_none.mpr λx hx=>by simpa using λe=>h<|bK.mpr ⟨x,hx,e⟩];rfl
def J6{kvs:List<|Int×A}{k:Int}{v:A}(h:k∉kvs.map (·.1)):zV kvs k v=kvs++[(k,v)]:=by
 unfold zV;rw[DQ h];rfl
def IC{S:iH}{n:Nat}(h:n<S.length):pA (S.set n<|.m_ kvs) n=some kvs:=qV<|bG h
def Ij{S:iH}{n:Nat}(h:n≠m):iC (S.set n o) m=iC S m:=by unfold iC;rw[bF h]
def nM{S:iH}{n:Nat}(h:S[n]?=some o):S.set n o=S:=by
 obtain⟨d,e⟩:=aL.mp h;rw[<- e];exact f_ d
theorem H_{r n a:Nat}{R:ag}(hn:n≠r)(J:R.length<=1000)(j:R.Nodup):∀(k t:Nat) (x2:A) (S:iH) (kvs:List<|Int×A),k+t=R.length->iC S r=some (R.map .int)->n<S.length->pA S n=some kvs->kvs.length<=1000+t->(∀x∈R.drop t,x∉kvs.map (·.1)) ->
  ∃x2',t9 qp (jd r R.length) (je 2) jK (iB 2) (iB 0) n k t [.int (a:Int),.ref r,x2] S=.ok [.int (a:Int),.ref r,x2'] (S.set n<|.m_<|kvs++(R.drop t).map λk=>(k,A.int (a:Int)))
 | 0,t,x2,S,kvs,e,h,hS,hk,_,_=>by
  have hf:(jd r R.length).fin S=true:=by
   show(match iC S r with
    | some ys=>decide (ys.length<=R.length)
    | none=>false)=true
   rw[h];simp
  refine⟨x2,?_⟩;unfold t9;rw[aS hf,dc (),dM,bI];congr 1;exact(nM<|nv hk).symm
 | k+1,t,x2,S,kvs,e,h,hS,hk,hz,hd=>by
  have f:t<R.length:=()
  have dr:R.drop t=R[t]::R.drop (t+1):=bO f;have g:R[t]∉kvs.map (·.1):=hd _ (by rw[dr];exact aM ..);have d:(R.drop t).Nodup:=j.sublist<|List.drop_sublist _ _;rw[dr]at d;have hg:(jd r R.length).get t S=some (.int R[t]):=by
   show(iC S r).bind _=_;rw[h,cG,aY,aH f];rfl
  have st:qp (.ref n) (.int R[t]) (.int (a:Int)) S=.ok Unit.unit (S.set n<|.m_<|kvs++[(R[t],.int (a:Int))]):=by
   show opt (pA S n) _=_;rw[hk,iU,j7<|show kvs.length<sizeLine by rw[cY];lia,J6 g]
  obtain⟨x2',e1⟩:=H_ (a:=a) hn J j k (t+1) (.int R[t]) (S.set n<|.m_<|kvs++[(R[t],.int (a:Int))]) (kvs++[(R[t],.int (a:Int))]) () (by rw[Ij hn];exact h) (by rw[bH];exact hS) (IC hS) (by rw[aV];show kvs.length+1<=_;lia) (λx hx=>by
   rw[bV,bA,not_or];refine⟨hd x<|by rw[dr];exact aK _ hx,λz=>?_⟩;have:x=R[t]:=by simpa using z
   rw[this]at hx;exact(bP.mp d).1 hx)
  refine⟨x2',?_⟩;unfold t9;dsimp[i8,bools,hg,st,e1,gG];rw[dr,bD,br];rfl
end K63
namespace K63
open PySem L2 Am
theorem Cp{n:Nat}{Q:List<|ag}(J:Q.flatten.Nodup)(L:Q.flatten.length<=1000):∀(k t:Nat) (x0 x1 x2:A) (S:iH) (kvs:List<|Int×A),k+t=Q.length->Tab S m qs Q->n∉m::qs->n<S.length->pA S n=some kvs->kvs.length+(Q.drop t).flatten.length<=1000->(∀x∈(Q.drop t).flatten,x∉kvs.map (·.1)) ->
  ∃τ',oU qp (pW m Q.length) (Ak 2<|tN (je 0)<|tN (je 1) CC) jK (jW<|iB 1) (je 2) jK (iB 2) (iB 0) n k t [x0,x1,x2] S=.ok τ' (S.set n<|.m_<|kvs++qi t (Q.drop t))
 | 0,t,x0,x1,x2,S,kvs,e,h,hn,hS,hk,_,_=>by
  have hf:(pW m Q.length).fin S=true:=by
   show(match iC S m with
    | some ys=>decide (ys.length=Q.length)
    | none=>false)=true
   rw[h.top];simp[h.len]
  refine⟨[x0,x1,x2],?_⟩;unfold oU;rw[aS hf,dc ()];show R.ok _ S=.ok _ (S.set n<|.m_<|kvs++[]);rw[bI,nM<|nv hk]
 | k+1,t,x0,x1,x2,S,kvs,e,h,hn,hS,hk,hz,hd=>by
  have C:t<Q.length:=()
  have len:=h.len;have d:qs[t]?=some (qs.getD t 0):=by rw[aI,aH ()];rfl
  have f:=(h.rows.get d).2;have dr:=kI C;rw[dr,bS]at hz hd;rw[aV]at hz;have B:(Q.drop t).flatten.Nodup:=by
   have:Q.flatten=(Q.take t).flatten++(Q.drop t).flatten:=by rw[<- List.flatten_append,cT]
   rw[this]at J;exact(cK.mp J).2.1
  rw[dr,bS,cK]at B;have hg:(pW m Q.length).get t S=some (.tup [.int (t:Int),.ref<|qs.getD t 0]):=by
   show(iC S m).bind _=_;rw[h.top,cG,aY,d];rfl
  have j:n≠qs.getD t 0:=λz=>hn (aK _<|by rw[z];exact bz d);have hs:jW (iB 1) [.int (t:Int),.ref<|qs.getD t 0,x2] S=.ok (jd (qs.getD t 0) ((Q.getD t []).map A.int).length) S:=k_ (by dsimp[i8,bools]) f;rw[aN]at hs;obtain⟨g,e1⟩:=H_ (a:=t) j () B.1 (Q.getD t []).length 0 x2 S kvs () f hS hk () (λx hx=>hd x<|dI _<|by rwa [c6]at hx);rw[c6]at e1;have kp:Kp (·=n) S (S.set n<|.m_<|kvs++(Q.getD t []).map λk=>(k,A.int (t:Int))):=Kp.refl.F0<|.inl rfl;have h2:Tab (S.set n<|.m_<|kvs++(Q.getD t []).map λk=>(k,A.int (t:Int))) m qs Q:=h.kp kp λr hr z=>hn (by rw[<- z];exact hr);obtain⟨τ',e2⟩:=Cp J L k (t+1) (.int (t:Int)) (.ref<|qs.getD t 0) g _ _ () h2 hn (by rw[bH];exact hS) (IC hS) (by rw[aV,aN];lia) (λx hx=>by
   rw[bV,bA,not_or];refine⟨hd x<|aT _ hx,λz=>?_⟩;rw[bM]at z;obtain⟨y,hy,rfl⟩:=bK.mp z;exact B.2.2 y hy y hx rfl)
  refine⟨τ',?_⟩;rw[gG]at e2;unfold oU;dsimp[i8,bools,hg,j7<|show([_,_]:ae).length=2 from rfl,hs];show R.jh (t9 qp (jd (qs.getD t 0) (Q.getD t []).length) (je 2) jK (iB 2) (iB 0) n (Q.getD t []).length 0 [.int (t:Int),.ref<|qs.getD t 0,x2] S) _=_;rw[e1,R.jc];show oU qp (pW m Q.length) _ _ _ _ _ _ _ n k (t+1) [.int (t:Int),.ref<|qs.getD t 0,g] _=_;rw[e2,dr];show _=R.ok τ' (S.set n<|.m_<|kvs++((Q.getD t []).map (λk=>(k,A.int (t:Int)))++qi (t+1) (Q.drop<|t+1)));rw[br]
theorem A4{t:Nat}{k:Int}:∀{q:ag},k∈q->(q.map λk=>(k,A.int (t:Int))).find? (λkv=>decide<|kv.1=k)=some (k,.int (t:Int))
 | [],c=>nomatch c
 | x::q,c=>by
  rw[bD,cC];by_cases e:x=k
  ·subst e;simp
  ·rw[show decide ((x,A.int (t:Int)).1=k)=false from bx e];exact A4 (by
    rcases a_.mp c with z|z
    ·exact absurd z.symm e
    ·exact z)
theorem Bj:∀{Q:List<|ag}{t:Nat}{k:Int},(∃q∈Q,k∈q)->kQ (qi t Q) k=some (.int ((t+Sy.wh Q k:Nat):Int))
 | [],_,_,h=>by obtain⟨q,j,_⟩:=h;cases j
 | q::Q,t,k,h=>by
  rw[Sy.mh];show kQ ((q.map λk=>(k,A.int (t:Int)))++qi (t+1) Q) k=_;unfold kQ;rw[List.find?_append];by_cases c:k∈q
  ·rw[aS c];rw[A4 c];rfl
  ·rw[aU c];have:(q.map λk=>(k,A.int (t:Int))).find? (λg=>decide<|g.1=k)=none:=List.find?_eq_none.mpr λx hx=>by
    obtain⟨y,hy,rfl⟩:=bK.mp hx;simpa using λe:y=k=>c<|by rw[<- e];exact hy
   rw[this];have h':∃p∈Q,k∈p:=by
    obtain⟨p,hp,d⟩:=h
    rcases a_.mp hp with e|e
    ·rw[e]at d;exact absurd d c
    ·exact⟨p,e,d⟩
   have f:=Bj (t:=t+1) h';unfold kQ at f;show((qi (t+1) Q).find? _).map _=_;rw[f];congr 3
   lia
theorem Fc:∀(Q:List<|ag) (t:Nat),(qi t Q).length=Q.flatten.length
 | [],_=>rfl
 | q::Q,t=>by
  show((q.map λk=>(k,A.int (t:Int)))++qi (t+1) Q).length=_;rw[aV,aN,Fc Q<|t+1,bS,aV]
end K63
namespace Sy
open Tb
theorem zC:∀{Q:List<|ag}{i:Nat}{m:Int},jM Q->(∀q∈Q,∀k∈q,k<m)->i<=Q.length->(∀j,((add Q i m).getD (j+1) []).length<=((add Q i m).getD j []).length)->jM (add Q i m)
 | [],i,m,_,_,_,_=>⟨(by simp),cg _ _,(λu d=>nomatch d),trivial⟩
 | q::Q,0,m,⟨h1,h2,h3,h4⟩,hm,_,_=>by
  refine⟨by simp,yp h2 λy hy=>Int.le_of_lt<|hm q (aM ..) y hy,λu d=>?_,h4⟩;have f:=h3 u d;refine⟨by rw[aV];have:=f.1;lia,λj x y hx hy=>f.2 j x y ?_ hy⟩;have G:=(aL.mp hy).1;rw[aR (by have:=f.1;lia)]at hx;exact hx
 | q::Q,i+1,m,⟨h1,h2,h3,h4⟩,hm,hi,hl=>by
  have F:=zC (Q:=Q) (i:=i) (m:=m) h4 (λp hp=>hm p<|aK _ hp) (by simpa using hi) λj=>by
   have:=hl<|j+1;exact this
  have B:=hm q<|aM ..;have C:((add Q i m).getD 0 []).length<=q.length:=hl 0;refine⟨h1,h2,λu d=>?_,F⟩;have lt:∀(j:Nat) (x:Int),q[j]?=some x->x<m:=λj x hx=>B x (bz hx)
  cases Q with
  | nil=>
   have d:some [m]=some u:=d
   cases d
   refine⟨b8.mpr h1,λj x y hx hy=>?_⟩;have:=(aL.mp hy).1;have t:j=0:=by simpa using this
   subst t
   cases hy
   exact lt 0 x hx
  | cons v V=>
   have f:=h3 v rfl
   cases i with
   | zero=>
    have d:some (v++[m])=some u:=d
    cases d
    refine⟨C,λj x y hx hy=>?_⟩
    rcases dR j v.length with z|z
    ·rw[aR z]at hy;exact f.2 j x y hx hy
    ·have g:=(aL.mp hy).1;rw[aV]at g;have:j=v.length:=by simp at g;lia
     subst this;rw[bX<|aO _,bW]at hy
     cases hy
     exact lt _ x hx
   | succ i=>
    have d:some v=some u:=d
    cases d
    exact f
theorem vP:∀{T:List<|ag},jM T->∀j,(T.getD (j+1) []).length<=(T.getD j []).length
 | [],_,j=>aO _
 | [r],_,j=>bL _
 | r::s::T,h,0=>(h.2.2.1 s rfl).1
 | r::s::T,h,j+1=>vP (T:=s::T) h.2.2.2 j
theorem tF(xs:ag):∀n,n<=xs.length->jM (tabs xs n).2
 | 0,_=>trivial
 | n+1,h=>by
  have e:(tabs xs<|n+1).2=add (tabs xs n).2 (row (tabs xs n).1<|xs.getD n 0) ((n:Int)+1):=rfl;have g:=jH xs<|n+1;have tl:=vP<|tu xs h;have gl:∀j,((tabs xs<|n+1).2.getD j []).length=((tabs xs<|n+1).1.getD j []).length:=λj=>by
   have:=cA (λl:am=>l[j]?) g;dsimp[aY]at this;rw[aI,aI]
   cases h1:(tabs xs<|n+1).2[j]?<;>cases h2:(tabs xs<|n+1).1[j]?<;>rw[h1,h2]at this
   ·cases this
   ·cases this
   ·exact aW this
  rw[e]at gl ⊢;refine zC (tF xs n ()) (λq f k d=>?_) ?_ λj=>?_
  ·have:=(wY xs n).1 q f k d;lia
  ·have l:=cA List.length<|jH xs n;rw[aN,aN]at l;rw[l];exact(uC _ _).2
  ·rw[gl,gl];exact tl j
end Sy
namespace Sy
open Tb
inductive Chain (ro:Nat->Nat):Nat->List (ag)->Prop
 | nil:Chain ro 0 []
 | step {N:Nat} {P P':List<|ag}:jM P->nB P (ro<|N+1)->(j8 P<|ro<|N+1).2=pad P' P.length->P'.length<=P.length->Chain ro N P'->Chain ro (N+1) P
theorem yC(ro:Nat->Nat):∀(N:Nat) {P Q:List<|ag},jM P->jM Q->P.map List.length=Q.map List.length->Q.flatten.Perm (L2.jZ 1<|(N:Int)+1)->(∀k:Nat,k<N->ro (k+1)=wh Q ((k:Int)+1))->Chain ro N P
 | 0,P,Q,hP,hQ,hs,hp,_=>by
  have W:Q=[]:=by
   cases Q with
   | nil=>rfl
   | cons q Q=>
    have:=hp.length_eq;have:=b8.mpr hQ.1;rw[bS,aV]at *
    have z:(L2.jZ 1<|((0:Nat):Int)+1).length=0:=rfl
    lia
  subst W;have M:P=[]:=ff.mp hs;subst M;exact .nil
 | N+1,P,Q,hP,hQ,hs,hp,hr=>by
  have f:∀k:Int,(∃q∈Q,k∈q) ↔ 1<=k/\k<((N+1:Nat):Int)+1:=λk=>by
   rw[<- L2.pX,<- hp.mem_iff,cH]
  obtain⟨B,C,L,G,d,V,_⟩:=C6 (m:=(N:Int)+1) hQ (λq hq k O=>by have:=(f k).mp ⟨q,hq,O⟩;lia)<|(f _).mpr ⟨(),()⟩;have Z:=hr N<|bE _;rw[<- Z]at C G d;have K:nB P (ro<|N+1):=by
   have l:∀i:Nat,(P[i]?).map List.length=(Q[i]?).map List.length:=λi=>by rw[<- aY,<- aY,hs]
   have t:P.length=Q.length:=by have:=cA List.length hs;simpa using this
   refine⟨by rw[t];exact d.1,λu Y=>?_⟩;have e1:=l<|ro (N+1)+1;rw[Y]at e1;obtain⟨w,hw,e⟩:=bu.mp e1.symm;have k:=d.2 w hw;have e2:=l<|ro<|N+1;rw[aH<|by rw[t];exact d.1,aH d.1]at e2;rw[aI,aH d.1]at k;rw[aI,aH<|by rw[t];exact d.1];have e2:=aW e2;dsimp[d8]at k ⊢
   lia
  obtain⟨F,p1,p2,p3,J,U,_⟩:=uo hP K;have sh:F.map List.length=B.map List.length:=by
   refine yF (a:=ro<|N+1) (rE p1) (rE L) ?_ (by rw[aN];exact G) ?_
   ·rw[aN];have:=(uC F (j8 P<|ro<|N+1).1).2;rw[J]at this;exact this
   ·rw[<- sC B (ro<|N+1) ((N:Int)+1),<- C,<- hs];have:=mw F (j8 P<|ro<|N+1).1;rw[p3,J]at this;exact this.symm
  have g:B.flatten.Perm (L2.jZ 1<|(N:Int)+1):=by
   have e:L2.jZ 1 (((N+1:Nat):Int)+1)=L2.jZ 1 ((N:Int)+1)++[(N:Int)+1]:=by
    unfold L2.jZ;rw[show(((N+1:Nat):Int)+1-1).toNat=N+1 by lia,show((N:Int)+1-1).toNat=N by lia,List.range_succ,bV];show _++[1+(N:Int)]=_;rw[Int.add_comm 1]
   rw[e]at hp;have:=(V.symm.trans hp).trans<|eO (l₁:=L2.jZ 1<|(N:Int)+1) (l₂:=[(N:Int)+1]);exact(List.perm_cons _).mp this
  exact .step hP K p2 U (yC ro N p1 L sh g λj hj=>by
   rw[hr j (),C,FY ()];have:((j:Int)+1)∈L2.jZ 1 ((N:Int)+1):=L2.pX.mpr ⟨(),()⟩;rw[<- g.mem_iff,cH]at this;exact this)
end Sy
namespace K63
open PySem L2 Am
def NI{n:Nat}{k:Int}:DZ (.ref n) (.int k) S=opt (pA S n) λkvs=>opt (kQ kvs k) λv=>.ok v S:=rfl
theorem Bs:∀(U:List<|ag) (a i:Nat),((Sy.j8 U a).2.getD i []).length<=(U.getD i []).length
 | [],_,_=>aO _
 | r::T,0,0=>by show r.dropLast.length<=r.length;rw[eU];lia
 | r::T,0,i+1=>aO _
 | r::T,a+1,0=>by show(r.set _ _).length<=r.length;rw[bH];exact aO _
 | r::T,a+1,i+1=>Bs T a i
def Em{S:iH}{n:Nat}{T:List<|ag}(h:Tab S n rs T)(j:T.length<=1000):∃(qs:am) (m:Nat) (S':iH),pZ [.ref n] S=.ok (.ref m) S'/\Tab S' m qs T/\mQ S S'/\∀r∈m::qs,S.length<=r:=by
 obtain⟨qs,m,S1,e1,h1,k1,d⟩:=DC (cap:=[]) (τ:=[.ref n]) (src:=jW<|iB 0) h (k_ (by dsimp[i8,bools]) h.top) ();unfold pZ vf uN;dsimp[i8,bools,mj,Nat.reduceAdd,Nat.reduceSub,e1];exact⟨qs,m,S1,rfl,h1,k1,d⟩
abbrev Ka (P Q:List<|ag)(N:Nat):ag:=Sy.Me (λk=>Sy.wh Q (k:Int)) N P
structure Pr (P Q:List (ag))(N:Nat):Prop where
 tp:Sy.jM P
 tq:Sy.jM Q
 bp:D4 P
 sh:P.map List.length=Q.map List.length
 le:N<=40
 pm:Q.flatten.Perm<|jZ 1<|(N:Int)+1
def Pr.fl{P Q:List<|ag}{N:Nat}(h:Pr P Q N):Q.flatten.length=N:=by rw[h.pm.length_eq,qW];lia
def GI(T:List<|ag):T.flatten.length=(T.map List.length).sum:=List.length_flatten
def Pr.small{P Q:List<|ag}{N:Nat}(h:Pr P Q N):P.length<=40/\Q.length<=40/\(∀i,(P.getD i []).length<=40)/\∀i,(Q.getD i []).length<=40:=by
 have s:=h.fl;rw[GI]at s;have l:=h.le;have a:=Tb.qw<|Sy.rE h.tq;have b:=Tb.sU<|Q.map List.length;have c:=cA List.length h.sh;rw[aN]at a;rw[aN,aN]at c;refine⟨(),(),λi=>?_,λi=>?_⟩
 ·rw[<- Tb.pO,h.sh];have:=b i;lia
 ·rw[<- Tb.pO];have:=b i;lia
def Pr.bq{P:List<|ag}{N:Nat}(h:Pr P Q N):D4 Q:=λr hr x hx=>by
 have:x∈jZ 1 ((N:Int)+1):=h.pm.mem_iff.mp<|cH.mpr ⟨r,hr,hx⟩;have:=pX.mp this;have:=h.le
 lia
def Ax{S:iH}{n N:Nat}{P:List<|ag}(h:Tab S n rs P)(h':Tab S m qs Q)(pr:Pr P Q N):∃(L:Nat) (S':iH),mL [.ref n,.ref m] S=.ok (.ref L) S'/\iC S' L=some ((Ka P Q N).map .int)/\mQ S S'/\S.length<=L:=by
 obtain⟨z1,z2,z3,z4⟩:=pr.small;obtain⟨S1,e1,k1⟩:=Kx h h' pr.tp pr.tq pr.bp pr.bq pr.sh pr.le pr.pm () () (λi=>by have:=z3 i;lia) (λi=>by have:=z4 i;lia);have h1:=h.wR k1;obtain⟨cs,c,S2,e2,h2,k2,fr2⟩:=Em h1 ();have U:=k1.trans k2;have G:=h'.wR U;have nd:Q.flatten.Nodup:=pr.pm.nodup_iff.mpr<|AD 1 _;have fl:=pr.fl;have le:=pr.le;obtain⟨τd,e3⟩:=Cp (n:=S2.length) (qs:=qs) (m:=m) nd () Q.length 0 .unb .unb .unb (S2++[.m_ []]) [] () (G.wR Kp.refl.lay) (λz=>by have:=G.lt _ z;lia) (by simp) (qV<|by simp) (by rw[c6];show 0+_<=_;lia) λx _ z=>nomatch z;have sd:(S2++[O.m_ []]).set S2.length (.m_<|[]++qi 0 (Q.drop 0))=S2++[.m_<|qi 0 Q]:=by
  rw[gw,c6,cS _ _<|aO _,bW];rfl
 rw[sd]at e3;have ed:IE (.m_ []) qp [none,none,none] (Eu<|iB 1) (Ak 2<|tN (je 0)<|tN (je 1) CC) jK (jW<|iB 1) (je 2) jK (iB 2) (iB 0) [.ref n,.ref m,.ref c,.unb,.unb,.unb] S2=.ok (.ref S2.length) (S2++[.m_<|qi 0 Q]):=by
  unfold IE;rw[B6 (S1:=S2) (n:=m) (by dsimp[i8,bools]) G.top,R.jR,aN,G.len];show R.jh (oU qp (pW m Q.length) _ _ _ _ _ _ _ S2.length Q.length 0 [.unb,.unb,.unb]<|S2++[.m_ []]) _=_;rw[e3,R.jc]
 obtain⟨S3,C⟩:∃S3,S3=S2++[O.m_<|qi 0 Q]:=⟨_,rfl⟩;have V:mQ S2 S3:=by rw[C];exact Kp.refl.lay
 have d3:pA S3 S2.length=some (qi 0 Q):=by rw[C];exact qV (by simp)
 have l3:S3.length=S2.length+1:=by rw[C];simp
 rw[<- C]at ed;have h3:=h2.wR V;have W:=U.trans V;have lc:∀r∈c::cs,r<S2.length:=h2.lt;have K:=Sy.yC (λk=>Sy.wh Q (k:Int)) N pr.tp pr.tq pr.sh pr.pm (λk _=>by show Sy.wh Q ((k+1:Nat):Int)=_;congr 1);have Y:pA (S3++[O.lst []]) S2.length=some (qi 0 Q):=qV (by rw[aR ()];exact nv d3);have ln:=W.len;unfold mL qS qv;dsimp[i8,bools,mj,Nat.reduceAdd,Nat.reduceSub,e1,fE,e2,ed];refine Ii (lo:=(N:Int)) (hi:=0) (S1:=S3++[.lst []]) (show rZ _ _=_ from yG (S1:=S3++[.lst []]) (S2:=S3++[.lst []]) (by dsimp[i8,bools,JH,Y,Fc,fl]) (by dsimp[i8,bools]) (by dsimp[i8,bools]) (mU () ())<|mU ⋯ ⋯)
  (λi τ S'=>∃(a5:A) (f:List<|ag) (d:ag),τ=[.ref n,.ref m,.ref c,.ref S2.length,.ref S3.length,a5]/\Tab S' c cs (Sy.pad f P.length)/\f.length<=P.length/\(∀j,((Sy.pad f P.length).getD j []).length<=40)/\Sy.Chain (λk=>Sy.wh Q (k:Int)) (N-i) f/\iC S' S3.length=some (d.map .int)/\d.length=i/\pA S' S2.length=some (qi 0 Q)/\mQ S S'/\Sy.Me (λk=>Sy.wh Q (k:Int)) (N-i) (Sy.pad f P.length)++d.reverse=Ka P Q N)
  (λr=>∃(L:Nat) (S':iH),RS.end (RS.seq r _)=.ok (.ref L) S'/\iC S' L=some ((Ka P Q N).map .int)/\mQ S S'/\S.length<=L)
  ⟨_,P,[],rfl,?_,aO _,?_,K,iW,rfl,Y,W.lay,?_⟩ ?_ ?_
 ·rw[show Sy.pad P P.length=P by unfold Sy.pad;rw[bW,fj,bI]];exact h3.wR Kp.refl.lay
 ·rw[show Sy.pad P P.length=P by unfold Sy.pad;rw[bW,fj,bI]];exact z3
 ·rw[show Sy.pad P P.length=P by unfold Sy.pad;rw[bW,fj,bI]];exact bI _
 ·rintro i τ S4 hi ⟨a5,f,d,rfl,t4,p4,r4,J,F,M,d4,k4,B⟩;left;obtain⟨j,hj⟩:∃j,N-i=j+1:=⟨N-i-1,()⟩;have ji:N-(i+1)=j:=()
  rw[hj]at J B;generalize hk:j+1=k at J
  cases J with
  | nil=>lia
  | @step g _ Z ta co tk pl ch=>
  obtain rfl:g=j:=()
  have lk:kQ (qi 0 Q) ((N:Int)-(i:Int))=some (.int ((Sy.wh Q ((g+1:Nat):Int):Nat):Int)):=by
   rw[show(N:Int)-(i:Int)=((g+1:Nat):Int)by lia];have:((g+1:Nat):Int)∈Q.flatten:=pr.pm.mem_iff.mpr<|pX.mpr ⟨(),()⟩;have:=Bj (t:=0)<|cH.mp this;rw[gF]at this;exact this
  obtain⟨S5,e5,t5,k5⟩:=KJ t4 (MC ta co p4) (by unfold Sy.pad;rw[aV,fX];lia) (λj=>by have:=r4 j;lia);have nl:S3.length∉cs:=λz=>by have:=lc _<|aK _ z;lia
  have nD:S2.length∉cs:=λz=>by have:=lc _<|aK _ z;lia
  have to5:=k5.lst _ _ nl F;have ll:=mO to5;have ep:Sy.j8 (Sy.pad f P.length) (Sy.wh Q ((g+1:Nat):Int))=((Sy.j8 f<|Sy.wh Q ((g+1:Nat):Int)).1,Sy.pad Z P.length):=by
   rw[Sy.rj co.1 p4,tk,Sy.xN pl p4]
  unfold rm;dsimp[i8,bools,NI,F,d4,lk,e5,to5,aN,q_<|show d.length<16777216 by lia];refine⟨_,_,rfl,_,Z,d++[(Sy.j8 f<|Sy.wh Q ((g+1:Nat):Int)).1],rfl,?_,(),λj=>?_,by rw[ji];exact ch,?_,by rw[aV,M];rfl,?_,(k4.old k5 λr hr _ z=>absurd (fr2 r<|aK _ z) (by have:=k1.len;lia)).set<|.inr (),?_⟩
  ·rw[ep]at t5;exact t5.kp (c:=(·=S3.length)) (Kp.refl.set<|.inl rfl) λr hr z=>by have:=lc r hr;lia
  ·have:=Bs (Sy.pad f P.length) (Sy.wh Q ((g+1:Nat):Int)) j;rw[ep]at this;exact bC this (r4 j)
  ·rw[ep,oM ll,bV];rfl
  ·have:=k5.obj _ _ nD<|nv d4;refine qV ?_;rw[bF ()];exact this
  ·rw[ji,List.reverse_append,<- B];show Sy.Me _ g _++([_]++d.reverse)=(Sy.Me _ g (Sy.j8 (Sy.pad f P.length)<|Sy.wh Q ((g+1:Nat):Int)).2++[(Sy.j8 (Sy.pad f P.length)<|Sy.wh Q ((g+1:Nat):Int)).1])++d.reverse;rw[ep,br]
 ·rintro τ S4 ⟨a5,f,d,rfl,t4,p4,r4,J,F,M,d4,k4,B⟩;rw[show((N:Int)-0).toNat=N by lia,bW]at B;dsimp[i8,bools,F,<- List.map_reverse];refine⟨_,_,rfl,?_,k4.lay,by have:=k4.len;lia⟩;rw[iW,<- B];rfl
end K63
namespace K63
open PySem L2 Am
theorem CO:∀(T:List<|ag) (x:Int) (r:ag) (y:Int),r∈Tb.put T x->y∈r->y=x\/∃q∈T,y∈q
 | [],x,r,y,hr,hy=>by
  have:r=[x]:=bf.mp hr;rw[this]at hy;exact .inl<|bf.mp hy
 | q::T,x,r,y,hr,hy=>by
  by_cases c:Tb.fg q x=q.length
  ·rw[Tb.kJ c]at hr
   rcases a_.mp hr with z|z
   ·rw[z]at hy
    rcases bA.mp hy with w|w
    ·exact .inr ⟨q,aM ..,w⟩
    ·exact .inl<|bf.mp w
   ·exact .inr ⟨r,aK _ z,hy⟩
  ·rw[Tb.mV c]at hr;have lt:=Tb.vg c
   rcases a_.mp hr with z|z
   ·rw[z]at hy
    rcases List.mem_or_eq_of_mem_set hy with w|w
    ·exact .inr ⟨q,aM ..,w⟩
    ·exact .inl w
   ·rcases CO T _ r y z hy with w|⟨p,hp,w⟩
    ·exact .inr ⟨q,aM ..,by rw[w];exact bz<|getD_at lt⟩
    ·exact .inr ⟨p,aK _ hp,w⟩
theorem yo{xs:ag}(hx:∀x∈xs,1<=x/\x<=1000000000):∀n,n<=xs.length->D4 (Tb.tabs xs n).1
 | 0,_=>λr hr=>nomatch hr
 | n+1,h=>λr hr y hy=>by
  rcases CO (Tb.tabs xs n).1 (xs.getD n 0) r y hr hy with z|⟨q,d,z⟩
  ·rw[z];exact hx _ (bz<|getD_at ())
  ·exact yo hx n () q d y z
theorem zG:∀(Q:List<|ag) (i:Nat) (m:Int),(Tb.add Q i m).flatten.Perm (m::Q.flatten)
 | [],_,m=>dB _
 | q::Q,0,m=>by
  show((q++[m])::Q).flatten.Perm (m::(q::Q).flatten);rw[bS,bS,br];exact cV
 | q::Q,i+1,m=>by
  show(q::Tb.add Q i m).flatten.Perm (m::(q::Q).flatten);rw[bS,bS];exact((zG Q i m).append_left q).trans cV
theorem s_(xs:ag):∀n,(Tb.tabs xs n).2.flatten.Perm (jZ 1<|(n:Int)+1)
 | 0=>dB _
 | n+1=>by
  have d:jZ 1 (((n+1:Nat):Int)+1)=jZ 1 ((n:Int)+1)++[(n:Int)+1]:=by
   unfold jZ;rw[show(((n+1:Nat):Int)+1-1).toNat=n+1 by lia,show((n:Int)+1-1).toNat=n by lia,List.range_succ,bV];show _++[1+(n:Int)]=_;rw[Int.add_comm 1]
  rw[d];exact((zG _ _ _).trans<|(s_ xs n).cons _).trans (eO (l₁:=[(n:Int)+1]))
def Nx(P:List<|ag):Sy.pad P P.length=P:=by unfold Sy.pad;rw[bW,fj,bI]
def Ks{xs:ag}(j:xs.length<=40)(hx:∀x∈xs,1<=x/\x<=1000000000):Pr (Tb.tabs xs xs.length).1 (Tb.tabs xs xs.length).2 xs.length/\Ka (Tb.tabs xs xs.length).1 (Tb.tabs xs xs.length).2 xs.length=xs:=by
 refine⟨⟨Sy.tu xs<|aO _,Sy.tF xs _<|aO _,yo hx _<|aO _,(Tb.jH xs _).symm,j,s_ xs _⟩,?_⟩;have:=Sy.zd xs (λk=>Sy.wh (Tb.tabs xs xs.length).2 (k:Int)) xs.length (aO _) (Tb.tabs xs xs.length).1.length (λk d=>(Sy.wY xs xs.length).2.2 k d)<|aO _;rw[Nx,g_]at this;exact this
end K63
namespace Kn
open Tb (fg put)
theorem vh:∀{A B:ag}{x:Int},(∀a∈A,a<=x)->(∀b∈B,x<b)->fg (A++B) x=A.length
 | [],[],_,_,_=>rfl
 | [],b::B,x,_,hB=>by
  have:=hB b<|aM ..;unfold Tb.fg;simp[gW,this]
 | a::A,B,x,hA,hB=>by
  have h:=hA a<|aM ..;have d:=vh (A:=A) (B:=B) (x:=x) (λc hc=>hA c<|aK _ hc) hB;unfold Tb.fg at d ⊢;rw[gc,gW,bx ()];simp[d]
def LR{A:ag}{x:Int}(j:∀a∈A,a<=x):put (A::T) x=(A++[x])::T:=by
 refine Tb.kJ ?_;have:=vh (A:=A) (B:=[]) (x:=x) j (λb hb=>absurd hb<|by simp)
 rwa [bI]at this
def Mt{A B:ag}{x b:Int}(j:∀a∈A,a<=x)(hb:x<b)(J:∀c∈B,x<c):put ((A++b::B)::T) x=(A++x::B)::put T b:=by
 have e:=vh (A:=A) (B:=b::B) (x:=x) j (λc hc=>by
  rcases a_.mp hc with rfl|z
  ·exact hb
  ·exact J c z)
 rw[Tb.mV<|by rw[e];simp,e];simp[aI]
theorem cut(x:Int):∀{R:ag},R.Pairwise (·<=·)->∃A B,R=A++B/\(∀a∈A,a<=x)/\∀b∈B,x<b
 | [],_=>⟨[],[],rfl,λa d=>absurd d<|by simp,λa d=>absurd d<|by simp⟩
 | r::R,h=>by
  rw[bQ]at h;by_cases c:r<=x
  ·obtain⟨A,B,rfl,f,g⟩:=cut x h.2;refine⟨r::A,B,rfl,λa d=>?_,g⟩
   rcases a_.mp d with rfl|z
   ·exact c
   ·exact f a z
  ·refine⟨[],r::R,rfl,λa d=>absurd d<|by simp,λb hb=>?_⟩
   rcases a_.mp hb with rfl|z
   ·lia
   ·have:=h.1 b z;lia
inductive Mv:ag->ag->Prop
 | one (x y z:Int) (h:x<=y) (h':y<z):Mv [x,z,y] [z,x,y]
 | two (x y z:Int) (h:x<y) (h':y<=z):Mv [y,x,z] [y,z,x]
abbrev Ng (T:List<|ag):Prop:=∀R∈T,R.Pairwise (·<=·)
def le_app{A B:ag}{x:Int}(h1:∀a∈A,a<=x)(h2:∀b∈B,b<=x):∀a∈A++B,a<=x:=λa d=>(bA.mp d).elim (h1 a)<|h2 a
def i6{B:ag}{b x:Int}(h1:b<=x)(h2:∀b∈B,b<=x):∀a∈b::B,a<=x:=λa d=>(a_.mp d).elim (λz=>z ▸ h1)<|h2 a
def nO{A B:ag}{x:Int}(h1:∀a∈A,x<a)(h2:∀b∈B,x<b):∀a∈A++B,x<a:=λa d=>(bA.mp d).elim (h1 a)<|h2 a
def kO{B:ag}{b x:Int}(h1:x<b)(h2:∀b∈B,x<b):∀a∈b::B,x<a:=λa d=>(a_.mp d).elim (λz=>z ▸ h1)<|h2 a
def le_nil{x:Int}:∀a∈([]:ag),a<=x:=λa d=>absurd d<|by simp
def kG{x:Int}:∀a∈([]:ag),x<a:=λa d=>absurd d<|by simp
def yr{A:ag}{x y:Int}(h:∀a∈A,a<=x)(k:x<=y):∀a∈A,a<=y:=λa d=>by have:=h a d;lia
def tR{A:ag}{x y:Int}(h:∀a∈A,y<a)(k:x<=y):∀a∈A,x<a:=λa d=>by have:=h a d;lia
def pe{L:ag}{R:ag}{x:Int}(e:R=L)(j:∀a∈L,a<=x)(J:R'=L++[x]):put (R::T) x=R'::T:=by rw[e,J,LR j]
def pb{L M R:ag}{x b:Int}(e:R=L++b::M)(j:∀a∈L,a<=x)(hb:x<b)(J:∀c∈M,x<c)(U:R'=L++x::M):put (R::T) x=R'::put T b:=by rw[e,U,Mt j hb J]
def HA(j:∀w w',Mv w w'->w.foldl put T=w'.foldl put T){x y z:Int}(h:x<y)(h':y<=z):put (put (put T y) x) z=put (put (put T y) z) x:=j _ _<|.two x y z h h'
def xm(j:∀w w',Mv w w'->w.foldl put T=w'.foldl put T){x y z:Int}(h:x<=y)(h':y<z):put (put (put T x) z) y=put (put (put T z) x) y:=j _ _<|.one x y z h h'
def Ko{R:ag}(hR:R.Pairwise (·<=·))(ih:∀w w',Mv w w'->w.foldl put T=w'.foldl put T){x y z:Int}(h:x<y)(h':y<=z):put (put (put (R::T) y) x) z=put (put (put (R::T) y) z) x:=by
 obtain⟨A0,E,rfl,K,hE⟩:=cut y hR;obtain⟨h1,h2,_⟩:=cy.mp hR;obtain⟨A,B,rfl,m,V⟩:=cut x h1;have P:∀b∈B,b<=y:=λb hb=>K b<|aT _ hb;have hAy:=yr m (show x<=y by lia);have g:=yr m (show x<=z by lia);have t:=yr P h'
 cases E with
 | nil=>
  rw[pe (R':=A++B++[y]) (bI _) K rfl]
  cases B with
  | nil=>
   rw[pb (L:=A) (M:=[]) (b:=y) (R':=A++[x]) (by simp) m h kG rfl,pe (R':=A++[x]++[z]) rfl (le_app g<|i6 () le_nil) rfl,
    pe (R:=A++[]++[y]) (R':=A++[y]++[z]) (L:=A++[y]) (by simp) (le_app g<|i6 h' le_nil) rfl,pb (L:=A) (M:=[z]) (b:=y) (R':=A++[x]++[z]) (by simp) m h (kO () kG)<|by simp]
  | cons b B=>
   have hb:=V b<|aM ..;have j:∀c∈B,x<c:=λc hc=>V c<|aK _ hc;have k:∀c∈B,c<=z:=λc hc=>t c<|aK _ hc;rw[pb (L:=A) (M:=B++[y]) (b:=b) (R':=A++x::(B++[y])) (by simp) m hb (nO j<|kO h kG) rfl,
    pe (R':=A++x::(B++[y])++[z]) rfl (le_app g<|i6 ()<|le_app k<|i6 h' le_nil) rfl,
    pe (R:=A++b::B++[y]) (R':=A++b::B++[y]++[z]) rfl (le_app (le_app g t)<|i6 h' le_nil) rfl,
    pb (L:=A) (M:=B++[y]++[z]) (b:=b) (R':=A++x::(B++[y])++[z]) (by simp) m hb (nO (nO j<|kO h kG)<|kO () kG) (by simp)]
 | cons e E=>
  have he:=hE e<|aM ..;have U:∀c∈E,y<c:=λc hc=>hE c<|aK _ hc;rw[bQ]at h2;obtain⟨C,D,rfl,W,hD⟩:=cut z h2.2;have F:∀c∈C++D,x<c:=λc hc=>by have:=U c hc;lia
  rw[pb (L:=A++B) (M:=C++D) (b:=e) (R':=A++B++y::(C++D)) rfl K he U rfl];obtain⟨f,X,hf,O,ex,ez⟩:∃(f:Int) (X:ag),f<e/\(∀a∈X++C,a<=z)/\(∀T,put ((A++B++y::(C++D))::T) x=(X++(C++D))::put T f)/\∀(N:ag) T,(∀c∈N,x<c)->put ((A++B++y::N)::T) x=(X++N)::put T f:=by
   cases B with
   | nil=>
    refine⟨y,A++[x],he,le_app (le_app g<|i6 () le_nil) W,λT=>?_,λN T Z=>?_⟩
    ·exact pb (L:=A) (M:=C++D) (b:=y) (by simp) m h F (by simp)
    ·exact pb (L:=A) (M:=N) (b:=y) (by simp) m h Z<|by simp
   | cons b B=>
    have hb:=V b<|aM ..;have j:∀c∈B,x<c:=λc hc=>V c<|aK _ hc;have hby:=P b<|aM ..;have k:∀c∈B,c<=z:=λc hc=>t c<|aK _ hc;refine⟨b,A++x::(B++[y]),(),le_app (le_app g<|i6 ()<|le_app k<|i6 h' le_nil) W,λT=>?_,λN T Z=>?_⟩
    ·exact pb (L:=A) (M:=B++y::(C++D)) (b:=b) (by simp) m hb (nO j<|kO h F) (by simp)
    ·exact pb (L:=A) (M:=B++y::N) (b:=b) (by simp) m hb (nO j<|kO h Z)<|by simp
  have G:∀a∈A++B++y::C,a<=z:=le_app (le_app g t)<|i6 h' W;rw[ex]
  cases D with
  | nil=>
   rw[pe (L:=X++C) (R':=X++(C++[z])) (by simp) O<|by simp,pe (L:=A++B++y::C) (R:=A++B++y::(C++[])) (R':=A++B++y::(C++[z])) (by simp) G<|by simp,
    ez _ _ (λc hc=>by
     rcases bA.mp hc with w|w
     ·exact F c (dI _ w)
     ·rw[show c=z by simpa using w];lia)]
  | cons d D=>
   have hd:=hD d<|aM ..;have J:∀c∈D,z<c:=λc hc=>hD c<|aK _ hc;have Y:e<=d:=h2.1 d (by simp);rw[pb (L:=X++C) (M:=D) (b:=d) (R':=X++(C++z::D)) (by simp) O hd J<|by simp,pb (L:=A++B++y::C) (R:=A++B++y::(C++d::D)) (M:=D) (b:=d) (R':=A++B++y::(C++z::D)) (by simp) G hd J<|by simp,
    ez _ _ (nO (λc hc=>F c<|dI _ hc)<|kO ()<|tR J ()),HA ih hf Y]
def Jz{R:ag}(hR:R.Pairwise (·<=·))(ih:∀w w',Mv w w'->w.foldl put T=w'.foldl put T){x y z:Int}(h:x<=y)(h':y<z):put (put (put (R::T) x) z) y=put (put (put (R::T) z) x) y:=by
 obtain⟨A,G,rfl,J,Z⟩:=cut x hR;obtain⟨_,h2,_⟩:=cy.mp hR;obtain⟨C,D,rfl,hC,W⟩:=cut z h2;have K:x<z:=()
 have m:=yr J h;have k:=yr J (show x<=z by lia);obtain⟨g1,g2,g3⟩:=cy.mp h2
 cases C with
 | nil=>
  cases D with
  | nil=>
   rw[pe (L:=A) (R':=A++[x]) (by simp) J rfl,pe (L:=A++[x]) (R':=A++[x]++[z]) rfl (le_app k<|i6 () le_nil) rfl,pb (L:=A++[x]) (M:=[]) (b:=z) (R':=A++[x]++[y]) rfl (le_app m<|i6 h le_nil) h' kG rfl,
    pe (L:=A) (R':=A++[z]) (R:=A++([]++[])) (by simp) k rfl,pb (L:=A) (M:=[]) (b:=z) (R':=A++[x]) rfl J K kG rfl,pe (L:=A++[x]) (R':=A++[x]++[y]) rfl (le_app m<|i6 h le_nil) rfl]
  | cons d D=>
   have hd:=W d<|aM ..;have j:∀c∈D,z<c:=λc hc=>W c<|aK _ hc;rw[pb (L:=A) (M:=D) (b:=d) (R:=A++([]++d::D)) (R':=A++x::D) rfl J () (tR j ()) rfl];rw[pb (L:=A) (M:=D) (b:=d) (R:=A++([]++d::D)) (R':=A++z::D) rfl k hd j rfl,pb (L:=A) (M:=D) (b:=z) (R':=A++x::D) rfl J K (tR j ()) rfl]
   cases D with
   | nil=>
    rw[pe (L:=A++[x]) (R':=A++[x]++[z]) rfl (le_app k<|i6 () le_nil) rfl,pb (L:=A++[x]) (M:=[]) (b:=z) (R':=A++[x]++[y]) rfl (le_app m<|i6 h le_nil) h' kG rfl,
     pe (L:=A++[x]) (R':=A++[x]++[y]) rfl (le_app m<|i6 h le_nil) rfl]
   | cons d2 D=>
    have hd2:=j d2<|aM ..;have U:∀c∈D,z<c:=λc hc=>j c<|aK _ hc;have hdd:d<=d2:=(bQ.mp g2).1 d2<|aM ..;rw[pb (L:=A++[x]) (M:=D) (b:=d2) (R':=A++[x]++z::D) (by simp) (le_app k<|i6 () le_nil) hd2 U rfl,pb (L:=A++[x]) (M:=D) (b:=z) (R':=A++[x]++y::D) rfl (le_app m<|i6 h le_nil) h' (tR U ()) rfl,
     pb (L:=A++[x]) (M:=D) (b:=d2) (R':=A++[x]++y::D) (by simp) (le_app m<|i6 h le_nil) () (tR U ()) rfl,HA ih hd hdd]
 | cons c C=>
  have hc:=hC c<|aM ..;have t:∀a∈C,a<=z:=λa B=>hC a<|aK _ B;have O:=Z c (by simp);have P:∀a∈C,x<a:=λa B=>Z a (by simp[B]);have hDx:∀a∈D,x<a:=λa B=>Z a (by simp[B]);rw[bQ]at g1;obtain⟨F,H,rfl,hF,hH⟩:=cut y g1.2;obtain⟨f,Y,hcf,hfz,V⟩:∃(f:Int) (Y:ag),c<=f/\f<=z/\∀(N:ag) T,(∀a∈N,z<a)->put ((A++x::(F++H++z::N))::T) y=(Y++N)::put T f:=by
   cases H with
   | nil=>exact⟨z,A++x::(F++[y]),hc,dh _,λN T hN=>pb (L:=A++x::F) (M:=N) (b:=z) (by simp) (le_app m<|i6 h hF) h' (tR hN ())<|by simp⟩
   | cons g H=>
    have hg:=hH g<|aM ..;have hH':∀a∈H,y<a:=λa B=>hH a<|aK _ B;exact⟨g,A++x::(F++y::(H++[z])),g1.1 g<|by simp,t g<|by simp,λN T hN=>pb (L:=A++x::F) (M:=H++z::N) (b:=g) (by simp) (le_app m<|i6 h hF) hg (nO hH'<|kO h'<|tR hN ())<|by simp⟩
  rw[pb (L:=A) (M:=F++H++D) (b:=c) (R':=A++x::(F++H++D)) (by simp) J O (nO P hDx) rfl]
  cases D with
  | nil=>
   rw[pe (L:=A++x::(F++H)) (R':=A++x::(F++H++z::[])) (by simp) (le_app k<|i6 () t)<|by simp,V _ _ kG,
    pe (L:=A++c::(F++H)) (R:=A++(c::(F++H)++[])) (R':=A++c::(F++H++z::[])) (by simp) (le_app k<|i6 hc t) (by simp),pb (L:=A) (M:=F++H++z::[]) (b:=c) (R':=A++x::(F++H++z::[])) rfl J O (nO P<|kO K kG) rfl,V _ _ kG]
  | cons d D=>
   have hd:=W d<|aM ..;have j:∀a∈D,z<a:=λa B=>W a<|aK _ B;rw[pb (L:=A++x::(F++H)) (M:=D) (b:=d) (R':=A++x::(F++H++z::D)) (by simp) (le_app k<|i6 () t) hd j<|by simp,V _ _ j,
    pb (L:=A++c::(F++H)) (R:=A++(c::(F++H)++d::D)) (M:=D) (b:=d) (R':=A++c::(F++H++z::D)) (by simp) (le_app k<|i6 hc t) hd j (by simp),pb (L:=A) (M:=F++H++z::D) (b:=c) (R':=A++x::(F++H++z::D)) rfl J O (nO P<|kO K<|tR j ()) rfl,V _ _ j,xm ih hcf ()]
theorem keeps:∀{T:List<|ag}{w w':ag},Ng T->Mv w w'->w.foldl put T=w'.foldl put T
 | [],_,_,_,.one x y z h h'=>by
  show put (put [[x]] z) y=put (put [[z]] x) y;have f:x<z:=()
  rw[pe (L:=[x]) (R':=[x]++[z]) rfl (i6 () le_nil) rfl,pb (L:=[x]) (M:=[]) (b:=z) (R':=[x]++[y]) rfl (i6 h le_nil) h' kG rfl,
   pb (L:=[]) (M:=[]) (b:=z) (R:=[z]) (R':=[x]) rfl le_nil f kG rfl,pe (L:=[x]) (R':=[x]++[y]) rfl (i6 h le_nil) rfl]
 | [],_,_,_,.two x y z h h'=>by
  show put (put [[y]] x) z=put (put [[y]] z) x;rw[pb (L:=[]) (M:=[]) (b:=y) (R:=[y]) (R':=[x]) rfl le_nil h kG rfl,pe (L:=[x]) (R':=[x]++[z]) rfl (i6 () le_nil) rfl,
   pe (L:=[y]) (R':=[y]++[z]) rfl (i6 h' le_nil) rfl,pb (L:=[]) (M:=[z]) (b:=y) (R:=[y]++[z]) (R':=[x]++[z]) rfl le_nil h (kO () kG) rfl]
 | R::T,_,_,hs,.one x y z h h'=>Jz (hs R<|aM ..) (λw w' m=>keeps (λR' d=>hs R'<|aK _ d) m) h h'
 | R::T,_,_,hs,.two x y z h h'=>Ko (hs R<|aM ..) (λw w' m=>keeps (λR' d=>hs R'<|aK _ d) m) h h'
end Kn
namespace Iv
open L2 Bl
abbrev inv:ag->Nat
 | []=>0
 | x::l=>l.countP (λy=>decide<|y<x)+inv l
abbrev kP (a b:ag):Nat:=(a.map λx=>b.countP λy=>decide<|y<x).sum
def qB(x:Int)(a b:ag):kP (x::a) b=b.countP (λy=>decide<|y<x)+kP a b:=rfl
theorem jO:∀(a b:ag),inv (a++b)=inv a+inv b+kP a b
 | [],b=>by show inv b=0+inv b+0;lia
 | x::a,b=>by
  show(a++b).countP _+inv (a++b)=(a.countP _+inv a)+inv b+kP (x::a) b;rw[List.countP_append,jO a b,qB];lia
theorem rO:∀{a b:am},a.Perm b->a.sum=b.sum
 | _,_,.nil=>rfl
 | _,_,.cons x h=>by rw[dW,dW,rO h]
 | _,_,.swap x y l=>by rw[dW,dW,dW,dW];lia
 | _,_,.trans h k=>(rO h).trans<|rO k
def JM{a:ag}(b:ag)(h:a.Perm a'):kP a b=kP a' b:=rO<|h.map _
def KY(a:ag){b:ag}(h:b.Perm b'):kP a b=kP a b':=by
 unfold kP;congr 1;refine fm λx _=>h.countP_eq _
def wU{M:ag}{x y:Int}(h:∀m∈M,m<x\/y<m)(j:x<y):M.countP (λm=>decide<|m<x)=M.countP (λm=>decide<|m<y):=by
 refine List.countP_congr λm hm=>?_;rw[cM,cM]
 rcases h m hm with z|z<;>omega
theorem tP:∀{M:ag}{x y:Int},(∀m∈M,m<x\/y<m)->x<y->kP M [x]=kP M [y]
 | [],_,_,_,_=>rfl
 | m::M,x,y,h,hxy=>by
  rw[qB,qB,tP (λm' hm=>h m'<|aK _ hm) hxy];congr 1;have:=h m<|aM ..;dsimp[h_,List.countP_nil];by_cases c:x<m
  ·rw[bh c,bh<|show y<m by omega]
  ·rw[bx c,bx<|show ¬y<m by omega]
def mid{M:ag}{x y:Int}(h:∀m∈M,m<x\/y<m)(j:x<y):inv ([y]++M++[x])=inv ([x]++M++[y])+1:=by
 rw[jO,jO,jO<|[x]++M,jO [x]];have e1:kP [y] M=kP [x] M:=by
  show M.countP _+0=M.countP _+0;rw[wU h j]
 have e2:kP ([y]++M) [x]=1+kP M [x]:=by
  show[x].countP _+kP M [x]=_;rw[h_,bh j];rfl
 have d:kP ([x]++M) [y]=kP M [y]:=by
  show[y].countP _+kP M [y]=_;rw[h_,bx (by lia:¬y<x)];simp
 rw[e1,e2,d,tP h j]
 skip
 lia
def IM(M:ag)(x y:Int):([y]++M++[x]).Perm ([x]++M++[y]):=by
 refine(eO (l₁:=[y]++M) (l₂:=[x])).trans ?_
 skip
 exact .cons x<|eO (l₁:=[y]) (l₂:=M)
def step {P M R:ag}{x y:Int}(h:∀m∈M,m<x\/y<m)(j:x<y):inv (P++([y]++M++[x])++R)=inv (P++([x]++M++[y])++R)+1:=by
 have p:=IM M x y;rw[jO,jO P,jO<|P++([x]++M++[y]),jO P,mid h j,KY P p,JM R<|p.append_left P]
 lia
abbrev sw (a:ag)(i j:Nat):ag:=(a.set i<|a.getD j 0).set j<|a.getD i 0
def split{a:ag}(Z:i<j)(U:j<a.length):∃P M R:ag,a=P++([a.getD i 0]++M++[a.getD j 0])++R/\P=a.take i/\(∀m∈M,∃k,i<k/\k<j/\a[k]?=some m)/\sw a i j=P++([a.getD j 0]++M++[a.getD i 0])++R:=by
 have K:a.getD i 0=a[i]:=by rw[aI,aH ()];rfl
 have J:a.getD j 0=a[j]:=by rw[aI,aH U];rfl
 obtain⟨M,B⟩:∃M,M=(a.drop<|i+1).take (j-i-1):=⟨_,rfl⟩;have G:M.length=j-i-1:=by rw[B,b_,dY];lia
 have C:a=a.take i++([a.getD i 0]++M++[a.getD j 0])++a.drop (j+1):=by
  have h1:a.drop i=a[i]::a.drop (i+1):=bO ();have h2:a.drop (i+1)=M++a.drop j:=by
   rw[B];have:=cT (j-i-1)<|a.drop<|i+1;rw[List.drop_drop,show i+1+(j-i-1)=j by lia]at this;exact this.symm
  have L:a.drop j=a[j]::a.drop (j+1):=bO U
  conv=>lhs;rw[<- cT i a,h1,h2,L]
  rw[K,J];simp
 refine⟨a.take i,M,a.drop<|j+1,C,rfl,λm hm=>?_,?_⟩
 ·rw[B]at hm;obtain⟨k,z⟩:=List.getElem?_of_mem hm;have t:k<j-i-1:=by
   have:=(aL.mp z).1;rw[b_]at this;lia
  rw[fy t,gO]at z;exact⟨i+1+k,(),(),z⟩
 ·have g:∀(P R:ag) (x y f d:Int),P.length=i->((P++([x]++M++[y])++R).set i d).set j f=P++([d]++M++[f])++R:=λP R x y f d F=>by
   rw[br,cS _ _ (),F,bW];show(P++(d::((M++[y])++R))).set j f=_;rw[cS _ _ (),F,show j-i=(j-i-1)+1 by lia,List.set_cons_succ,br,cS _ _ (),G,bW];simp
  have:=g (a.take i) (a.drop<|j+1) (a.getD i 0) (a.getD j 0) (a.getD i 0) (a.getD j 0) (by rw[b_];lia);rw[<- C]at this;exact this
end Iv
namespace Stp
open PySem L2 Iv
abbrev mm (a:ag)(i j:Nat):ag:=(a.drop<|i+1).take<|j-i-1
end Stp
namespace Mo
open PySem L2 Am Tb
abbrev chg (r:ag)(k:Nat):ag:=Iv.sw r k<|k+1
abbrev lo (r:ag)(k:Nat):Int:=if r.getD (k+1) 0<r.getD k 0 then r.getD (k+1) 0 else r.getD k 0
abbrev hi (r:ag)(k:Nat):Int:=if r.getD (k+1) 0>r.getD k 0 then r.getD (k+1) 0 else r.getD k 0
abbrev c1 (r:ag)(k:Nat):Bool:=decide (k+2<r.length) && (decide (lo r k<=r.getD (k+2) 0) && decide (r.getD (k+2) 0<hi r k))
abbrev c2 (r:ag)(k:Nat):Bool:=decide (0<k) && (decide (lo r k<r.getD (k-1) 0) && decide (r.getD (k-1) 0<=hi r k))
abbrev may (r:ag)(k:Nat):Bool:=c1 r k || c2 r k
abbrev Ro (r:ag):List (ag):=((List.range<|r.length-1).filter<|may r).map<|chg r
abbrev lA (r:ag)(k:Nat):Bool:=(decide (r.getD k 0<=r.getD (k+2) 0) && decide (r.getD (k+2) 0<r.getD (k+1) 0)) || (decide (r.getD (k+1) 0<=r.getD (k+2) 0) && decide (r.getD (k+2) 0<r.getD k 0))
abbrev lB (r:ag)(k:Nat):Bool:=(decide (r.getD (k+1) 0<r.getD k 0) && decide (r.getD k 0<=r.getD (k+2) 0)) || (decide (r.getD (k+2) 0<r.getD k 0) && decide (r.getD k 0<=r.getD (k+1) 0))
def EN{r:ag}{k:Nat}(h:k+1<r.length):chg r k=r.take k++[r.getD (k+1) 0,r.getD k 0]++r.drop (k+2):=by
 unfold chg;rw[Stp.swpl () h];unfold Stp.mm;rw[show k+1-k-1=0 by lia,List.take_zero];rfl
def QH{r:ag}{k:Nat}(h:k+2<r.length):c1 r k=lA r k:=by
 unfold c1 lA lo hi;rw[bh h,gZ,Bool.eq_iff_iff];dsimp[bZ,c8,cM];by_cases a:r.getD (k+1) 0<r.getD k 0
 ·rw[aS a,aU ()];lia
 ·rw[aU a];split<;>lia
def Pg{r:ag}{k:Nat}:c2 r (k+1)=lB r k:=by
 unfold c2 lB lo hi;rw[bh (),gZ,Bool.eq_iff_iff,show k+1-1=k by lia,show k+1+1=k+2 by lia];dsimp[bZ,c8,cM];by_cases a:r.getD (k+2) 0<r.getD (k+1) 0
 ·rw[aS a,aU ()];lia
 ·rw[aU a];split<;>lia
def Lf{r x:ag}:x∈Ro r ↔ ∃k,k+1<r.length/\may r k=true/\x=chg r k:=by
 unfold Ro;rw[bK];constructor
 ·rintro⟨k,d,rfl⟩;obtain⟨h1,h2⟩:=gu.mp d;have:=fN.mp h1;exact⟨k,(),h2,rfl⟩
 ·rintro⟨k,h1,h2,rfl⟩;exact⟨k,gu.mpr ⟨fN.mpr (),h2⟩,rfl⟩
theorem CW:∀{T:List<|ag}{x:Int},Kn.Ng T->Kn.Ng (put T x)
 | [],x,_=>λR d=>by
  have:R=[x]:=bf.mp d;rw[this];exact cg ..
 | R::T,x,h=>by
  have d:=h R<|aM ..;have m:Kn.Ng T:=λQ f=>h Q<|aK _ f;obtain⟨L,B,e,j,k⟩:=Kn.cut x d
  cases B with
  | nil=>
   rw[bI]at e;subst e;rw[Kn.LR j];intro Q f
   rcases a_.mp f with rfl|z
   ·rw[cy];exact⟨d,cg ..,λa g b hb=>by rw[bf.mp hb];exact j a g⟩
   ·exact m Q z
  | cons b B=>
   subst e;rw[Kn.Mt j (k b<|aM ..) λc hc=>k c<|aK _ hc];intro Q f
   rcases a_.mp f with rfl|z
   ·have p:=cy.mp d;rw[cy];refine⟨p.1,bQ.mpr ⟨λc hc=>?_,(bQ.mp p.2.1).2⟩,λa g c hc=>?_⟩
    ·have:=k c<|aK _ hc;lia
    ·rcases a_.mp hc with rfl|z
     ·exact j a g
     ·exact p.2.2 a g c<|aK _ z
   ·exact CW m Q z
theorem yt:∀{w:ag}{T:List<|ag},Kn.Ng T->Kn.Ng (w.foldl put T)
 | [],_,h=>h
 | x::w,_,h=>yt (w:=w)<|CW h
def Co{P R:ag}(h:Kn.Mv P Q\/Kn.Mv Q P):(R++P++S).foldl put []=(R++Q++S).foldl put []:=by
 rw[c7,c7,c7,c7];have s:Kn.Ng (R.foldl put []):=yt λ_ h=>absurd h (by simp)
 rcases h with h|h
 ·rw[Kn.keeps s h]
 ·rw[Kn.keeps s h]
def FG{r:ag}{k:Nat}(h:k+2<r.length):r=r.take k++[r.getD k 0,r.getD (k+1) 0,r.getD (k+2) 0]++r.drop (k+3):=by
 have e:∀i,i<r.length->r.drop i=r.getD i 0::r.drop (i+1):=λi hi=>by
  rw[bO hi,aI,aH hi];rfl
 conv=>lhs;rw[<- cT k r,e k (),e (k+1) (),e (k+2) ()]
 simp
def tab{r:ag}{k:Nat}(h:k+1<r.length)(hm:may r k=true):(chg r k).foldl put []=r.foldl put []:=by
 have j:∀{i:Nat},i<r.length->r.drop i=r.getD i 0::r.drop (i+1):=λ{i} hi=>by
  rw[bO hi,aI,aH hi];rfl
 rcases c8 _ _ ▸ (show(c1 r k || c2 r k)=true from hm)with z|z
 ·have g:k+2<r.length:=by
   unfold c1 at z;exact dO (bZ _ _ ▸ z).1
  rw[QH g]at z;have e1:=FG g;have e2:chg r k=r.take k++[r.getD (k+1) 0,r.getD k 0,r.getD (k+2) 0]++r.drop (k+3):=by
   rw[EN h,j g];simp
  rw[e2]
  conv=>rhs;rw[e1]
  refine Co ?_;unfold lA at z;dsimp[c8,bZ,cM]at z
  rcases z with⟨f,d⟩|⟨f,d⟩
  ·exact .inr (.one _ _ _ f d)
  ·exact .inl<|.one _ _ _ f d
 ·have g:0<k:=by
   unfold c2 at z;exact dO (bZ _ _ ▸ z).1
  obtain⟨m,rfl⟩:∃m,k=m+1:=⟨k-1,()⟩;rw[Pg]at z;have e1:=FG (r:=r) (k:=m) ();have e2:chg r (m+1)=r.take m++[r.getD m 0,r.getD (m+2) 0,r.getD (m+1) 0]++r.drop (m+3):=by
   rw[EN h];have:r.take (m+1)=r.take m++[r.getD m 0]:=by
    rw[dS<|show m<r.length by lia,aI,aH<|show m<r.length by lia];rfl
   rw[this];simp
  rw[e2]
  conv=>rhs;rw[e1]
  refine Co ?_;unfold lB at z;dsimp[c8,bZ,cM]at z
  rcases z with⟨f,d⟩|⟨f,d⟩
  ·exact .inr (.two _ _ _ f d)
  ·exact .inl<|.two _ _ _ f d
theorem mz(xs:ag):∀i,i<=xs.length->(tabs xs i).1=(xs.take i).foldl put []
 | 0,_=>rfl
 | i+1,h=>by
  have d:=mz xs i ();rw[dS<|show i<xs.length by lia,c7,<- d];show put (tabs xs i).1 (xs.getD i 0)=put (tabs xs i).1 xs[i];rw[aI,aH<|show i<xs.length by lia];rfl
abbrev dd:List (ag)->List (ag)->List (ag)
 | acc,[]=>acc
 | acc,x::xs=>dd (if x∈acc then acc else acc++[x]) xs
end Mo
namespace Ld
open Tb Mo
section
variable {r0 c:ag}{R:List (ag)}
def gl{x:ag}(h:i<R.length):(R++[x]).getD i []=R.getD i []:=by
 rw[aI,aR h,<- aI]
end
def Om{A:ag}{y:Int}:(A++y::B).getD A.length 0=y:=by
 rw[aI,bX<|aO _,bW];rfl
def split{R:ag}{x:Int}(hs:R.Pairwise (·<=·))(h:fg R x≠R.length):∃L b M,R=L++b::M/\(∀a∈L,a<=x)/\x<b/\(b::M).Pairwise (·<=·)/\L.Pairwise (·<=·)/\fg R x=L.length/\R.getD (fg R x) 0=b/\R.set (fg R x) x=L++x::M:=by
 obtain⟨L,B,e,d,g⟩:=Kn.cut x hs
 cases B with
 | nil=>
  rw[bI]at e;have:fg (L++[]) x=L.length:=Kn.vh d (λ_ h=>absurd h<|by simp);rw[bI]at this;rw[e]at h;exact absurd this h
 | cons b M=>
  have f:fg R x=L.length:=by rw[e];exact Kn.vh d g
  have p:=hs;rw[e,cy]at p;refine⟨L,b,M,e,d,g b<|aM ..,p.2.1,p.1,f,?_,?_⟩
  ·rw[f,e];exact Om
  ·rw[f,e,cS _ _<|aO _,bW];rfl
end Ld
namespace Kc
open PySem L2 Am Tb Mo
open Sy (jM j8 pad nB)
def getD_in{r:ag}{k:Nat}(h:k<r.length):r=r.take k++r.getD k 0::r.drop (k+1):=by
 conv=>lhs;rw[<- cT k r,bO h]
 rw[aI,aH h];rfl
theorem Gx:∀(T:List<|ag) (x:Int),(put T x).flatten.Perm (x::T.flatten)
 | [],x=>dB _
 | r::T,x=>by
  by_cases c:fg r x=r.length
  ·rw[kJ c];show((r++[x])++T.flatten).Perm (x::(r++T.flatten));rw[br];exact cV
  ·have d:=vg c;rw[mV c];show(r.set (fg r x) x++(put T<|r.getD (fg r x) 0).flatten).Perm (x::(r++T.flatten));refine((Gx T _).append_left _).trans ?_;have e:=getD_in d;rw[fM,aS d]
   conv=>rhs;rw[e]
   dsimp[br,gc];refine cV.trans<|List.Perm.cons _<|(List.Perm.append_left _ ?_);exact cV
theorem G5:∀(w:ag) (T:List<|ag),(w.foldl put T).flatten.Perm (w++T.flatten)
 | [],T=>dB _
 | x::w,T=>by
  show(w.foldl put<|put T x).flatten.Perm _;exact(G5 w<|put T x).trans (((Gx T x).append_left w).trans cV)
def uz(w:ag):(w.foldl put []).flatten.Perm w:=by
 have:=G5 w []
 rwa [List.flatten_nil,bI]at this
abbrev cr (P:List<|ag)(a:Nat):Bool:=decide<|(P.getD (a+1) []).length<(P.getD a []).length
abbrev dr:Nat->List (ag)->List (ag)
 | 0,_=>[[]]
 | n+1,P=>(List.range P.length).flatMap λa=>if cr P a=true then(dr n (j8 P a).2).map (·++[(j8 P a).1])else[]
def IZ(T:List<|ag)(m j:Nat):(pad T m).getD j []=T.getD j []:=by
 unfold pad;rw[aI,aI];by_cases c:j<T.length
 ·rw[aR c]
 ·rw[bX (),fJ,f9 ()];split<;>rfl
def Dv{a:Nat}(h:cr (pad T m) a=true):nB T a:=by
 unfold cr at h;rw[IZ,IZ]at h;have h:=dO h;refine⟨Nat.lt_of_not_le λz=>?_,λu d=>?_⟩
 ·rw[aI (i:=a),f9 z]at h;exact absurd h (cL _)
 ·rw[aI (i:=a+1),d]at h;exact h
def part{T:List<|ag}{a:Nat}(j:jM T)(hm:T.length<=m)(h:cr (pad T m) a=true):∃T',jM T'/\T'.length<=m/\(j8 (pad T m) a).2=pad T' m/\put T' (j8 (pad T m) a).1=T/\Tb.row T' (j8 (pad T m) a).1=a:=by
 have c:=Dv h;obtain⟨T',t1,t2,g,d,f,_⟩:=Sy.uo j c;have e:=Sy.rj c.1 hm;refine⟨T',t1,(),?_,?_,?_⟩
 ·rw[e,t2,Sy.xN f hm]
 ·rw[e];exact g
 ·rw[e];exact d
def keep {r x:ag}(h:x∈Ro r):x.foldl put []=r.foldl put []:=by
 obtain⟨k,h1,h2,rfl⟩:=Lf.mp h;exact tab h1 h2
abbrev Q_ (l s:ag):ag:=s.foldl List.erase l
abbrev grown (l:ag)(F:List<|ag):List (ag):=F.flatMap λs=>(sortI<|Q_ l s).map λz=>s++[z]
abbrev da:List (ag)->List (ag)->List (ag)
 | acc,[]=>acc
 | acc,x::xs=>da (if acc.getLast?=some x then acc else acc++[x]) xs
abbrev lv (l:ag):Nat->List (ag)
 | 0=>[[]]
 | k+1=>da []<|grown l<|lv l k
structure Lev (l:ag)(k:Nat)(F:List (ag)):Prop where
 up:F.Pairwise (λa b=>HT.lexLt a b=true)
 mem:∀s,s∈F ↔ s.length=k/\∃t,(s++t).Perm l
theorem TZ(l:ag):∀k,Lev l k (lv l k)
 | 0=>⟨cg ..,λs=>by
  show s∈[[]] ↔ _;rw[bf];exact⟨λz=>by rw[z];exact⟨rfl,l,dB _⟩,λ⟨z,_⟩=>cO.mp z⟩⟩
 | k+1=>(TZ l k).step
def M8{l x:ag}:x∈lv l l.length ↔ x.Perm l:=by
 rw[(TZ l l.length).mem x];constructor
 ·rintro⟨h,t,d⟩;have:=d.length_eq;rw[aV]at this;have:t=[]:=cO.mp ()
  rwa [this,bI]at d
 ·exact λh=>⟨h.length_eq,[],by rwa [bI]⟩
theorem Lu:∀(xs acc:List<|ag),(da acc xs).length<=acc.length+xs.length
 | [],acc=>aO _
 | x::xs,acc=>by
  have:=Lu xs<|if acc.getLast?=some x then acc else acc++[x];have h:(if acc.getLast?=some x then acc else acc++[x]).length<=acc.length+1:=by
   split
   ·lia
   ·rw[aV];exact aO _
  show(da _ xs).length<=acc.length+(xs.length+1)
  lia
theorem Bq:∀(s l:ag),(Q_ l s).length<=l.length
 | [],l=>aO _
 | a::s,l=>bC (Bq s<|l.erase a)<|List.length_erase_le ..
theorem zJ(l:ag):∀(F:List<|ag),(grown l F).length<=F.length * l.length
 | []=>bL _
 | s::F=>by
  have:=zJ l F;have h:=Bq s l;show(((sortI<|Q_ l s).map λz=>s++[z])++grown l F).length<=(F.length+1) * l.length;rw[aV,aN,(sortI_perm _).length_eq,succ_mul]
  lia
theorem Mp{l:ag}(h:l.length<=6):∀k,(lv l k).length<=6 ^ k
 | 0=>aO _
 | k+1=>by
  have h1:=Lu (grown l<|lv l k) [];have h2:=zJ l<|lv l k;have d:=Mp h k;have f:(lv l k).length * l.length<=6 ^ k * 6:=Nat.mul_le_mul d h;rw[Nat.pow_succ];show(da []<|grown l<|lv l k).length<=_;dsimp[dG,gF]at h1
  lia
theorem FE:∀{l L:List<|ag},l.Nodup->(∀x∈l,x∈L)->l.length<=L.length
 | [],L,_,_=>bL _
 | x::l,L,h,s=>by
  obtain⟨h1,h2⟩:=bP.mp h;have:=FE (l:=l) (L:=L.erase x) h2 λy hy=>(List.mem_erase_of_ne λ(z:y=x)=>h1<|z ▸ hy).mpr<|s y<|aK _ hy;have hx:=s x<|aM ..;rw[List.length_erase_of_mem hx]at this;have:=fS hx;rw[bw];lia
def few{w:ag}{F:List<|ag}(hw:w.length<=6)(j:F.Nodup)(J:∀x∈F,x.foldl put []=w.foldl put []):F.length<=46656:=by
 refine bC (FE (L:=lv w w.length) j λx hx=>?_)<|bC (Mp hw _)<|Nat.pow_le_pow_right ⋯ hw;refine M8.mpr ?_;have:=uz x;rw[J x hx]at this;exact this.symm.trans<|uz w
end Kc
namespace Gn
open Tb Sy
abbrev G:ag->Int->Int->Nat
 | [],_,_=>0
 | x::w,a,b=>max (G w a b)<|max (if a<=x then G w x b+1 else 0)<|if b<=x then G w a x+1 else 0
abbrev C (r:Int->Int->Bool):ag->Int->Nat
 | [],_=>0
 | x::w,a=>max (C r w a)<|if r a x=true then C r w x+1 else 0
abbrev gt (a x:Int):Bool:=decide<|x<a
abbrev le (a x:Int):Bool:=decide<|a<=x
def lK(x:Int)(w:ag)(a b:Int):G (x::w) a b=max (G w a b) (max (if a<=x then G w x b+1 else 0)<|if b<=x then G w a x+1 else 0):=rfl
theorem qj:∀(w:ag) (a b:Int),G w a b=G w b a
 | [],_,_=>rfl
 | x::w,a,b=>by rw[lK,lK,qj w a b,qj w x b,qj w a x];lia
theorem sX:∀(w:ag) {a a':Int}(b:Int),a<=a'->G w a' b<=G w a b
 | [],_,_,_,_=>aO _
 | x::w,a,a',b,h=>by
  have h1:=sX w b h;have h2:=sX w x h;rw[lK,lK];refine gP.2 ⟨(),gP.2 ⟨?_,?_⟩⟩
  ·split
   ·rw[aS<|show a<=x by lia];lia
   ·lia
  ·split<;>lia
def wW(w:ag){b j:Int}(a:Int)(h:b<=j):G w a j<=G w a b:=by
 rw[qj w a j,qj w a b];exact sX w a h
def mY(r:Int->Int->Bool)(x:Int)(w:ag)(a:Int):C r (x::w) a=max (C r w a) (if r a x=true then C r w x+1 else 0):=rfl
def uA{a x:Int}:gt a x=true ↔ x<a:=cM
def le_iff{a x:Int}:le a x=true ↔ a<=x:=cM
theorem xX:∀(w:ag) {a a':Int},a<=a'->C gt w a<=C gt w a'
 | [],_,_,_=>aO _
 | x::w,a,a',h=>by
  have:=xX w h;rw[mY,mY];refine gP.2 ⟨(),?_⟩;split
  ·next q=>rw[aS<|uA.2 (show x<a' by have:=uA.1 q;lia)];lia
  ·lia
abbrev E (u v:ag):Prop:=(∀a b,G u a b=G v a b)/\∀a,C gt u a=C gt v a
def E.rf(u:ag):E u u:=⟨λ_ _=>rfl,λ_=>rfl⟩
def E.tr{v w:ag}(h:E u v)(h':E v w):E u w:=⟨λa b=>(h.1 a b).trans<|h'.1 a b,λa=>(h.2 a).trans<|h'.2 a⟩
def E.co{v:ag}(x:Int)(h:E u v):E (x::u) (x::v):=⟨λa b=>by rw[lK,lK,h.1,h.1,h.1],λa=>by rw[mY,mY,h.2,h.2]⟩
theorem E.ap{v:ag}(h:E u v):∀(w:ag),E (w++u) (w++v)
 | []=>h
 | x::w=>(E.ap h w).co x
def L0(x:Int)(w:ag)(a b:Int):G w a b<=G (x::w) a b:=by rw[lK];lia
def L1{x a:Int}(w:ag)(b:Int)(h:a<=x):G w x b+1<=G (x::w) a b:=by rw[lK,aS h];lia
def L2{x b:Int}(w:ag)(a:Int)(h:b<=x):G w a x+1<=G (x::w) a b:=by rw[lK,aS h];lia
def Le{x a b:Int}{w:ag}{N:Nat}(h0:G w a b<=N)(h1:a<=x->G w x b+1<=N)(h2:b<=x->G w a x+1<=N):G (x::w) a b<=N:=by
 rw[lK];refine gP.2 ⟨h0,gP.2 ⟨?_,?_⟩⟩
 ·split
  ·exact h1 ‹_›
  ·lia
 ·split
  ·exact h2 ‹_›
  ·lia
def Q6{x z:Int}(v:ag)(a b:Int)(h:x<z):G (z::x::v) a b<=G (x::z::v) a b:=
 Le (Le (bC (L0 z v a b)<|L0 ..) (λp=>by have:=L0 z v x b;have:=L1 (z::v) b p;lia) (λp=>by have:=L0 z v a x;have:=L2 (z::v) a p;lia))
  (λp=>by
   have q:G (x::v) z b<=G (x::z::v) a b-1:=Le (by have:=L1 v b p;have:=L0 x (z::v) a b;lia) (λq=>()) (λq=>by have:=L1 v x p;have:=L2 (z::v) a q;lia);have:=L1 v b p;have:=L0 x (z::v) a b;lia)
  (λp=>by
   have q:G (x::v) a z<=G (x::z::v) a b-1:=Le (by have:=L2 v a p;have:=L0 x (z::v) a b;lia) (λq=>by have:=L2 v x p;have:=L1 (z::v) b q;lia) λq=>();have:=L2 v a p;have:=L0 x (z::v) a b;lia)
def Q0{x z:Int}{v:ag}{a b:Int}{N:Nat}(h:G (z::x::v) a b<=N)(h1:a<=x->G v z b+2<=N)(h2:b<=x->G v a z+2<=N):G (x::z::v) a b<=N:=by
 refine Le (Le ?_ ?_ ?_) ?_ ?_
 ·have:=L0 x v a b;have:=L0 z (x::v) a b;lia
 ·intro p;have:=L0 x v z b;have:=L1 (x::v) b p;lia
 ·intro p;have:=L0 x v a z;have:=L2 (x::v) a p;lia
 ·intro p;have q:G (z::v) x b<=N-1:=Le (by have:=L1 v b p;have:=L0 z (x::v) a b;lia) (λ_=>by have:=h1 p;lia) (λq=>by have:=L1 v z p;have:=L2 (x::v) a q;lia);have:=L1 v b p;have:=L0 z (x::v) a b;lia
 ·intro p;have q:G (z::v) a x<=N-1:=Le (by have:=L2 v a p;have:=L0 z (x::v) a b;lia) (λq=>by have:=L2 v z p;have:=L1 (x::v) b q;lia) (λ_=>by have:=h2 p;lia);have:=L2 v a p;have:=L0 z (x::v) a b;lia
def g1{x y z:Int}(h1:x<y)(h2:y<=z)(v:ag)(a b:Int):G (y::z::x::v) a b=G (y::x::z::v) a b:=by
 have d:x<z:=()
 refine dH (Le (bC (Q6 v a b d)<|L0 ..) (λp=>bC (d_<|Q6 v y b d)<|L1 _ _ p) λp=>bC (d_<|Q6 v a y d)<|L2 _ _ p) (Le (Q0 (L0 ..) (λp=>?_) λp=>?_) (λp=>?_) λp=>?_)
 ·have:=L0 x v z b;have:=L1 (x::v) b h2;have:=L1 (z::x::v) b (show a<=y by lia);lia
 ·have:=L0 x v a z;have:=L2 (x::v) a h2;have:=L2 (z::x::v) a (show b<=y by lia);lia
 ·have s:=L1 (z::x::v) b p;have q:G (x::z::v) y b<=G (y::z::x::v) a b-1:=Q0 () (λq=>()) λq=>by
   have:=qj v y z;have:=wW v z (show x<=y by lia);have:=L2 v z q;have:=L1 (x::v) b h2;lia
  lia
 ·have s:=L2 (z::x::v) a p;have q:G (x::z::v) a y<=G (y::z::x::v) a b-1:=Q0 () (λq=>by
   have:=qj v y z;have:=sX v z (show x<=y by lia);have:=L1 v z q;have:=L2 (x::v) a h2;lia) λq=>()
  lia
def g2{x y z:Int}(h1:x<=y)(h2:y<z)(v:ag)(a b:Int):G (x::z::y::v) a b=G (z::x::y::v) a b:=by
 refine dH (Q0 (aO _) (λp=>?_) λp=>?_) (Q6 _ a b ())
 ·have q:G (y::v) z b<=G (z::x::y::v) a b-2:=Le (by
   have:=L1 v b h1;have:=L1 (y::v) b p;have:=L0 z (x::y::v) a b;have:=sX v b (show y<=z by lia);lia) (λq=>()) λq=>by
   have:=L1 v z h1;have:=L1 (y::v) z p;have:=L2 (x::y::v) a (show b<=z by lia);have:=qj v z y;lia
  have:=L1 v b h1;have:=L1 (y::v) b p;have:=L0 z (x::y::v) a b;lia
 ·have q:G (y::v) a z<=G (z::x::y::v) a b-2:=Le (by
   have:=L2 v a h1;have:=L2 (y::v) a p;have:=L0 z (x::y::v) a b;have:=wW v a (show y<=z by lia);lia) (λq=>by
   have:=L2 v z h1;have:=L2 (y::v) z p;have:=L1 (x::y::v) b (show a<=z by lia);have:=qj v z y;lia) λq=>()
  have:=L2 v a h1;have:=L2 (y::v) a p;have:=L0 z (x::y::v) a b;lia
def K0(x:Int)(w:ag)(a:Int):C gt w a<=C gt (x::w) a:=by rw[mY];lia
def K1{x a:Int}(w:ag)(h:x<a):C gt w x+1<=C gt (x::w) a:=by rw[mY,aS<|uA.2 h];lia
def Ke{x a:Int}{w:ag}{N:Nat}(h0:C gt w a<=N)(h1:x<a->C gt w x+1<=N):C gt (x::w) a<=N:=by
 rw[mY];refine gP.2 ⟨h0,?_⟩;split
 ·exact h1 (uA.1 ‹_›)
 ·lia
def k1{x z:Int}(v:ag)(a:Int)(h:x<z):C gt (x::z::v) a<=C gt (z::x::v) a:=
 Ke (Ke (bC (K0 x v a)<|K0 ..) λp=>by have:=K0 x v z;have:=K1 (x::v) p;lia) λp=>by
  have q:C gt (z::v) x<=C gt (z::x::v) a-1:=Ke (by have:=K1 v p;have:=K0 z (x::v) a;lia) λq=>()
  have:=K1 v p;have:=K0 z (x::v) a;lia
def k2{x z:Int}{v:ag}{a:Int}{N:Nat}(h:C gt (x::z::v) a<=N)(h1:z<a->C gt v x+2<=N):C gt (z::x::v) a<=N:=by
 refine Ke (Ke ?_ λp=>?_) λp=>?_
 ·have:=K0 z v a;have:=K0 x (z::v) a;lia
 ·have:=K0 z v x;have:=K1 (z::v) p;lia
 ·have q:C gt (x::v) z<=N-1:=Ke (by have:=K1 v p;have:=K0 x (z::v) a;lia) λ_=>by have:=h1 p;lia
  have:=K1 v p;have:=K0 x (z::v) a;lia
def d1{x y z:Int}(h1:x<y)(h2:y<=z)(v:ag)(a:Int):C gt (y::z::x::v) a=C gt (y::x::z::v) a:=by
 have d:x<z:=()
 refine dH (Ke (k2 (K0 ..) λp=>?_) λp=>?_) (Ke (bC (k1 v a d)<|K0 ..) λp=>bC (d_<|k1 v y d)<|K1 _ p)
 ·have:=K0 z v x;have:=K1 (z::v) h1;have:=K1 (x::z::v) (show y<a by lia);lia
 ·have s:=K1 (x::z::v) p;have q:C gt (z::x::v) y<=C gt (y::x::z::v) a-1:=k2 () λq=>()
  lia
def d2{x y z:Int}(h1:x<=y)(h2:y<z)(v:ag)(a:Int):C gt (x::z::y::v) a=C gt (z::x::y::v) a:=by
 refine dH (k1 _ a ())<|k2 (aO _) λp=>?_;have q:C gt (y::v) x<=C gt (x::z::y::v) a-2:=Ke (by
  have:=xX v h1;have:=K1 v h2;have:=K1 (y::v) p;have:=K0 x (z::y::v) a;lia) λq=>()
 have:=K1 v h2;have:=K1 (y::v) p;have:=K0 x (z::y::v) a;have:=xX v h1;lia
def m1{x y z:Int}(h1:x<y)(h2:y<=z)(v:ag):E (y::z::x::v) (y::x::z::v):=⟨g1 h1 h2 v,d1 h1 h2 v⟩
def m2{x y z:Int}(h1:x<=y)(h2:y<z)(v:ag):E (x::z::y::v) (z::x::y::v):=⟨g2 h1 h2 v,d2 h1 h2 v⟩
theorem rA:∀(M:ag) {b x:Int}(v:ag),(b::M).Pairwise (·<=·)->x<b->E (b::(M++x::v)) (b::x::(M++v))
 | [],_,_,_,_,_=>E.rf _
 | m::M,b,x,v,h,hx=>by
  have h':=bQ.mp h;have hm:=h'.1 m<|aM ..;exact((rA M v h'.2 ()).co b).tr (m1 hx hm _)
theorem rB:∀(L:ag) {b x:Int}(v:ag),L.Pairwise (·<=·)->(∀a∈L,a<=x)->x<b->E (L++b::x::v) (b::(L++x::v))
 | [],_,_,_,_,_,_=>E.rf _
 | l::L,b,x,v,h,hl,hx=>by
  have h':=bQ.mp h;refine((rB L v h'.2 (λa d=>hl a<|aK _ d) hx).co l).tr ?_
  cases L with
  | nil=>exact m2 (hl l<|aM ..) hx _
  | cons q L=>
   have:=hl q<|aK _<|aM ..;exact m2 (h'.1 q<|aM ..) () _
def Ot{R:ag}{x:Int}(hs:vK R)(h:fg R x≠R.length)(v:ag):E (R++x::v) (R.getD (fg R x) 0::(R.set (fg R x) x++v)):=by
 obtain⟨L,b,M,e,g,hx,j,d,_,f,es⟩:=Ld.split hs h;rw[f,es,e,br,br];exact((rA M v j hx).ap L).tr (rB L (M++v) d g hx)
theorem F3:∀{T:List<|ag}{x:Int}(v:ag),jM T->E (plain T++x::v) (plain (put T x)++v)
 | [],_,_,_=>E.rf _
 | R::T,x,v,h=>by
  by_cases c:fg R x=R.length
  ·rw[kJ c,iV,iV,<- br,br<|plain T++R,br];dsimp[br];exact E.rf _
  ·rw[mV c,iV,iV,br,br];exact((Ot h.2.1 c v).ap _).tr (F3 _ h.2.2.2)
theorem BJ:∀(w:ag) {T:List<|ag},jM T->E (plain T++w) (plain<|w.foldl put T)
 | [],T,_=>by rw[bI];exact E.rf _
 | x::w,T,h=>(F3 w h).tr<|BJ w<|uL h
def word(w:ag):E w (plain<|w.foldl put []):=BJ w (T:=[]) trivial
inductive Dl:ag->ag->ag->Prop
 | nil:Dl [] [] []
 | keep {d w w'} (x:Int):Dl d w w'->Dl d (x::w) (x::w')
 | drop {d w w'} (x:Int):Dl d w w'->Dl (x::d) (x::w) w'
abbrev hh:ag->Int->Nat
 | [],_=>0
 | x::_,a=>if a<=x then 1 else 0
def Ec(x:Int)(d:ag)(a:Int):hh (x::d) a=if a<=x then 1 else 0:=rfl
def CL{a j:Int}(h:a<=j):∀d,hh d j<=hh d a
 | []=>aO _
 | x::d=>by
  by_cases q:j<=x
  ·rw[Ec,Ec,aS q,aS<|show a<=x by lia];exact aO _
  ·rw[Ec,aU q];exact bL _
def GD:∀(d:ag) (a:Int),hh d a<=1
 | [],_=>bL _
 | x::d,a=>by rw[Ec];split<;>decide
abbrev lo (d:ag)(a b:Int):Nat:=min d.length<|hh d a+hh d b
def dl:∀{d w w':ag},Dl d w w'->d.Pairwise (· > ·)->∀a b,G w a b<=G w' a b+lo d a b:=by
 intro d w w' h
 induction h with
 | nil=>intro _ a b;exact bL _
 | @keep d w w' x h f=>
  intro p a b;refine Le ?_ (λq=>?_) λq=>?_
  ·have:=f p a b;have:=L0 x w' a b;lia
  ·have:=f p x b;have:=L1 w' b q;have:=CL q d;unfold lo at *;lia
  ·have:=f p a x;have:=L2 w' a q;have:=CL q d;unfold lo at *;lia
 | @drop d w w' x h f=>
  intro p a b;have g:=bQ.mp p;have j:∀c,hh d c<=hh (x::d) c:=by
   intro c
   cases d with
   | nil=>exact bL _
   | cons y d=>
    have:=g.1 y<|aM ..;rw[Ec,Ec];by_cases q:c<=y
    ·rw[aS q,aS<|show c<=x by lia];exact aO _
    ·rw[aU q];exact bL _
  have hx:hh d x=0:=by
   cases d with
   | nil=>rfl
   | cons y d=>have:=g.1 y<|aM ..;exact aU ()
  have k:=j a;have hb:=j b;refine Le ?_ (λq=>?_) λq=>?_
  ·have:=f g.2 a b;unfold lo at *;rw[bw];lia
  ·have:=f g.2 x b;have:=sX w' b q;have e:hh (x::d) a=1:=aS q;unfold lo at *;rw[bw];lia
  ·have:=f g.2 a x;have:=wW w' a q;have e:hh (x::d) b=1:=aS q;unfold lo at *;rw[bw];lia
def Dl.app{w d2:ag}(h:Dl d w w')(h2:Dl d2 w2 w2'):Dl (d++d2) (w++w2) (w'++w2'):=by
 induction h with
 | nil=>exact h2
 | keep x _ f=>exact f.keep x
 | drop x _ f=>exact f.drop x
theorem Dl.same:∀(w:ag),Dl [] w w
 | []=>.nil
 | x::w=>(Dl.same w).keep x
abbrev Cs:List (ag)->Prop
 | []=>True
 | r::T=>(∀u,T.head?=some u->Fits u r)/\Cs T
theorem Hs:∀{T:List<|ag},jM T->Cs T
 | [],_=>trivial
 | _::_,h=>⟨h.2.2.1,Hs h.2.2.2⟩
abbrev hds (T:List<|ag):ag:=(T.reverse.map λr=>r.take 1).flatten
def rY(r:ag)(T:List<|ag):hds (r::T)=hds T++r.take 1:=by unfold hds;simp
def MX:∀(r:ag),Dl (r.take 1) r r.tail
 | []=>.nil
 | x::r=>(Dl.same r).drop x
theorem Gw:∀(T:List<|ag),Dl (hds T) (plain T) (plain<|T.map List.tail)
 | []=>.nil
 | r::T=>by rw[rY,iV,bD,iV];exact(Gw T).app (MX r)
def D7{u r:ag}(h:Fits u r):Fits u.tail r.tail:=by
 refine⟨by rw[ie,ie];have:=h.1;lia,λj x y hx hy=>?_⟩;rw[List.getElem?_tail]at hx hy;exact h.2 _ x y hx hy
theorem C5:∀{T:List<|ag},Cs T->Cs (T.map List.tail)
 | [],_=>trivial
 | r::T,h=>⟨λu d=>by
   cases T with
   | nil=>cases d
   | cons q T=>cases d;exact D7<|h.1 q rfl,C5 h.2⟩
theorem Iw:∀{T:List<|ag},Cs T->(hds T).Pairwise (· > ·)/\∀r,T.head?=some r->∀x,r.head?=some x->∀y∈hds T,x<=y
 | [],_=>⟨.nil,λ_ h=>by cases h⟩
 | r::T,h=>by
  obtain⟨p,q⟩:=Iw h.2;have d:∀x,r.head?=some x->∀y∈hds T,x<y:=by
   intro x hx y hy
   cases T with
   | nil=>cases hy
   | cons u T=>
    have f:=h.1 u rfl
    cases u with
    | nil=>
     exfalso;have:∀{T:List<|ag},Cs ([]::T)->hds ([]::T)=[]:=by
      intro T
      induction T with
      | nil=>intro _;rfl
      | cons s T j=>
       intro c;have e:s=[]:=by have:=(c.1 s rfl).1;exact cO.1 (by simpa using this)
       subst e;have:=j c.2;rw[rY,this];rfl
     rw[this h.2]at hy;cases hy
    | cons z u=>
     have:=q _ rfl z rfl y hy
     cases r with
     | nil=>cases hx
     | cons g r=>cases hx;have:=f.2 0 x z rfl rfl;lia
  rw[rY];refine⟨cy.2 ⟨p,?_,λy hy x hx=>?_⟩,λk hr x hx y hy=>?_⟩
  ·cases r with
   | nil=>exact .nil
   | cons x r=>exact cg ..
  ·cases r with
   | nil=>cases hx
   | cons g r=>
    have:x=g:=by simpa using hx
    subst this;exact d x rfl y hy
  ·cases hr
   rcases bA.1 hy with hy|hy
   ·exact Int.le_of_lt (d x hx y hy)
   ·cases r with
    | nil=>cases hx
    | cons g r=>
     cases hx;have:y=x:=by simpa using hy
     lia
theorem Be:∀{T:List<|ag},Cs T->min (hds T).length 1=min (T.getD 0 []).length 1/\min (hds T).length 2=min (T.getD 0 []).length 1+min (T.getD 1 []).length 1
 | [],_=>⟨rfl,rfl⟩
 | r::T,h=>by
  have d:=(Be h.2).1;rw[rY,aV,b_];show min (_+_) 1=min r.length 1/\_=min r.length 1+min (T.getD 0 []).length 1;have f:(T.getD 0 []).length<=r.length:=by
   cases T with
   | nil=>exact bL _
   | cons u T=>exact(h.1 u rfl).1
  lia
def yz(T:List<|ag)(i:Nat):((T.map List.tail).getD i []).length=(T.getD i []).length-1:=by
 rw[aI,aI,aY]
 cases T[i]? with
 | none=>rfl
 | some r=>exact ie
theorem vA:∀{T:List<|ag},Cs T->(T.getD 0 []).length=0->plain T=[]
 | [],_,_=>rfl
 | r::T,h,e=>by
  have f:(T.getD 0 []).length<=r.length:=by
   cases T with
   | nil=>exact bL _
   | cons u T=>exact(h.1 u rfl).1
  have e:r.length=0:=e;rw[iV,vA h.2 (),cO.1 e];rfl
def Kq{x:Int}(h:x∈hds T):x∈plain T:=by
 unfold hds at h;unfold plain;obtain⟨q,d,hx⟩:=cH.1 h;obtain⟨r,hr,rfl⟩:=bK.1 d;exact cH.2 ⟨r,hr,gr hx⟩
def DU{T:List<|ag}{x:Int}(h:x∈plain (T.map List.tail)):x∈plain T:=by
 unfold plain at *
 obtain⟨q,d,hx⟩:=cH.1 h;rw[ig]at d;obtain⟨r,hr,rfl⟩:=bK.1 d;exact cH.2 ⟨r,ig.2 hr,List.mem_of_mem_tail hx⟩
theorem up:∀(n:Nat) {T:List<|ag},Cs T->(T.getD 0 []).length<=n->∀a b,G (plain T) a b<=(T.getD 0 []).length+(T.getD 1 []).length/\((∀x∈plain T,x<b)->G (plain T) a b<=(T.getD 0 []).length)
 | 0,T,h,hl,a,b=>by rw[vA h ()];exact⟨bL _,λ_=>bL _⟩
 | n+1,T,h,hl,a,b=>by
  have d:=dl (Gw T) (Iw h).1 a b;have e0:=yz T 0;have e1:=yz T 1;obtain⟨m,f⟩:=up n (C5 h) () a b;obtain⟨j,k⟩:=Be h;have t:=GD (hds T) a;have ob:=GD (hds T) b;unfold lo at d;refine⟨(),λhb=>?_⟩;have z:hh (hds T) b=0:=by
   cases e:hds T with
   | nil=>rfl
   | cons y d=>have:=hb y (Kq<|by rw[e];exact aM ..);exact aU ()
  have:=f λx hx=>hb x<|DU hx;by_cases g:(T.getD 0 []).length=0
  ·rw[vA h g];exact bL _
  ·lia
theorem skip:∀(u:ag) {w:ag}(a b:Int),G w a b<=G (u++w) a b
 | [],_,_,_=>aO _
 | x::u,w,a,b=>bC (skip u a b)<|L0 x (u++w) a b
theorem one_up:∀{R:ag}{b:Int}(a:Int),vK R->(∀x∈R,b<=x)->R.length<=G R a b
 | [],_,_,_,_=>bL _
 | x::R,b,a,h,hb=>by
  have h':=bQ.mp h;have:=one_up a h'.2 h'.1;have:=L2 R a<|hb x<|aM ..;rw[bw];lia
theorem FT:∀{R w:ag}{a b:Int}{k:Nat},vK R->(∀x∈R,a<=x)->(∀c,k<=G w c b)->R.length+k<=G (R++w) a b
 | [],w,a,b,k,_,_,hk=>by have:=hk a;simpa using this
 | x::R,w,a,b,k,h,ha,hk=>by
  have h':=bQ.mp h;have:=FT h'.2 h'.1 hk;have:G (R++w) x b+1<=G (x::R++w) a b:=L1 (R++w) b<|ha x<|aM ..;rw[bw];lia
theorem Ah:∀{R w:ag}{a:Int},vK R->C gt (R++w) a<=C gt w a+1/\((∀x∈R,a<=x)->C gt (R++w) a<=C gt w a)
 | [],w,a,_=>⟨le_succ _,λ_=>aO _⟩
 | x::R,w,a,h=>by
  have h':=bQ.mp h;have f:=Ah (w:=w) (a:=a) h'.2;refine⟨Ke f.1 λp=>?_,λd=>Ke (f.2 λy hy=>d y<|aK _ hy) λp=>by have:=d x<|aM ..;lia⟩;have:=(Ah (w:=w) (a:=x) h'.2).2 h'.1;have:=xX w (show x<=a by lia);show C gt (R++w) x+1<=_
  lia
theorem dn:∀{T:List<|ag}{w:ag}{a:Int},jM T->C gt (plain T++w) a<=C gt w a+T.length
 | [],w,a,_=>aO _
 | R::T,w,a,h=>by
  rw[iV,br];have:=dn (T:=T) (w:=R++w) (a:=a) h.2.2.2;have:=(Ah (w:=w) (a:=a) h.2.1).1;rw[bw];lia
theorem LN:∀(u:ag) {w:ag}(a:Int),C gt w a<=C gt (u++w) a
 | [],_,_=>aO _
 | x::u,w,a=>bC (LN u a)<|K0 x (u++w) a
theorem Lz:∀{T:List<|ag}{w:ag}{a:Int}{k:Nat},jM T->(∀x∈plain T,x<a)->(∀x,(∀r,T.head?=some r->r.head?=some x)->(T=[]->x=a)->k<=C gt w x)->T.length+k<=C gt (plain T++w) a
 | [],w,a,k,_,_,hk=>by have:=hk a (λr h=>by cases h) λ_=>rfl;rw[dG,gF];exact this
 | []::T,w,a,k,h,_,_=>absurd rfl h.1
 | (y::R)::T,w,a,k,h,ha,hk=>by
  rw[iV,br];have hy:y<a:=ha y (by rw[iV];exact bA.2<|.inr<|aM ..);have:=Lz (T:=T) (w:=(y::R)++w) (a:=a) (k:=k+1) h.2.2.2 (λx hx=>ha x<|by rw[iV];exact bA.2<|.inl hx) λx h1 h2=>by
   have lt:y<x:=by
    cases T with
    | nil=>have:=h2 rfl;lia
    | cons u T=>
     have f:=h.2.2.1 u rfl;have e:=h1 u rfl;exact f.2 0 y x rfl<|by rw[<- e,fW]
   have:=hk y (λr hr=>by cases hr;rfl) λe=>by cases e
   have:=K1 (R++w) lt;have:=LN R (w:=w) y;show k+1<=C gt (y::(R++w)) x
   lia
  rw[bw];lia
def PV(T:List<|ag):T=[]\/(∃R,T=[R])\/∃R U T',T=R::U::T':=by
 cases T with
 | nil=>exact .inl rfl
 | cons R T=>
  cases T with
  | nil=>exact .inr (.inl ⟨R,rfl⟩)
  | cons U T=>exact .inr<|.inr ⟨R,U,T,rfl⟩
def G7{T:List<|ag}(h:jM T)(h1:∀x∈plain T,0<=x):G (plain T) 0 0=(T.getD 0 []).length+(T.getD 1 []).length:=by
 refine dH (up _ (Hs h) (aO _) 0 0).1 ?_
 rcases PV T with rfl|⟨R,rfl⟩|⟨R,U,d,rfl⟩
 ·exact aO _
 ·rw[iV];exact bC (one_up 0 h.2.1 λx hx=>h1 x<|by rw[iV];exact bA.2<|.inr hx) (skip (plain []) 0 0)
 ·rw[iV,iV,br];refine bC ?_<|skip (plain d) 0 0;show R.length+U.length<=_;have:=FT (w:=R) (b:=0) (k:=R.length) h.2.2.2.2.1 (λx hx=>h1 x<|by rw[iV,iV];exact bA.2<|.inl<|bA.2<|.inr hx) λc=>one_up c h.2.1 λx hx=>h1 x (by rw[iV];exact bA.2<|.inr hx)
  lia
def KP{T:List<|ag}{M:Int}(h:jM T)(h1:∀x∈plain T,0<=x/\x<M):G (plain T) 0 M=(T.getD 0 []).length:=by
 refine dH ((up _ (Hs h) (aO _) 0 M).2 λx hx=>(h1 x hx).2) ?_
 cases T with
 | nil=>exact bL _
 | cons R T=>
  rw[iV];have:=one_up M h.2.1 λx hx=>(h1 x<|by rw[iV];exact bA.2<|.inr hx).1;rw[qj]at this;exact bC this<|skip (plain T) 0 M
def rows{T:List<|ag}{M:Int}(h:jM T)(h1:∀x∈plain T,x<M):C gt (plain T) M=T.length:=by
 have a:=dn (w:=[]) (a:=M) h;have b:=Lz (w:=[]) (k:=0) h h1 λ_ _ _=>bL _;rw[bI]at a b;have:C gt [] M=0:=rfl
 lia
theorem xm:∀{w:ag}{M:Int},(∀x∈w,x<M)->∀a,G w a M=C le w a
 | [],_,_,_=>rfl
 | x::w,M,h,a=>by
  have hx:=h x<|aM ..;have d:=xm λy hy=>h y<|aK _ hy;rw[lK,mY,aU<|show ¬M<=x by lia,d,d];by_cases q:a<=x
  ·rw[aS q,aS<|le_iff.2 q];lia
  ·rw[aU q,aU λz=>q<|le_iff.1 z];lia
def Ek{w:ag}{x:Int}(h:x∈plain (w.foldl put [])):x∈w:=by
 refine(Kc.uz w).mem_iff.1 ?_;obtain⟨r,hr,hx⟩:=cH.1 h;exact cH.2 ⟨r,ig.1 hr,hx⟩
def main{w:ag}{M:Int}(h:∀x∈w,0<=x/\x<M){T:List<|ag}(e:w.foldl put []=T) :
  C le w 0=(T.getD 0 []).length/\C gt w M=T.length/\G w 0 0=(T.getD 0 []).length+(T.getD 1 []).length:=by
 subst e;have d:jM (w.foldl put []):=se w trivial;have hm:∀x∈plain (w.foldl put []),0<=x/\x<M:=λx hx=>h x<|Ek hx;refine⟨?_,?_,?_⟩
 ·rw[<- xm (λx hx=>(h x hx).2),(word w).1,KP d hm]
 ·rw[(word w).2,rows d λx hx=>(hm x hx).2]
 ·rw[(word w).1,G7 d λx hx=>(hm x hx).1]
end Gn
namespace Gn
abbrev hr (r:Int->Int->Bool)(w B:ag)(k:Nat):Nat->Int
 | 0=>1
 | i+1=>if r (w.getD i 0) (w.getD k 0)=true then(if B.getD i 0+1>hr r w B k i then B.getD i 0+1 else hr r w B k i)else hr r w B k i
abbrev bs (r:Int->Int->Bool)(w:ag):Nat->ag
 | 0=>[]
 | k+1=>bs r w k++[hr r w (bs r w k) k k]
theorem nI(r:Int->Int->Bool)(w:ag):∀k,(bs r w k).length=k
 | 0=>rfl
 | k+1=>by show(bs r w k++[_]).length=_;rw[aV,nI r w k];rfl
def HL{r:Int->Int->Bool}{w:ag}{k:Nat}(h:j<k):(bs r w<|k+1).getD j 0=(bs r w k).getD j 0:=by
 show(bs r w k++[_]).getD j 0=_;rw[aI,aR<|by rw[nI];exact h,aI]
def xW{r:Int->Int->Bool}{w:ag}{k:Nat}:(bs r w<|k+1).getD k 0=hr r w (bs r w k) k k:=by
 show(bs r w k++[_]).getD k 0=_;rw[aI,bX<|by rw[nI];exact aO _,nI,bW];rfl
theorem Mm{r:Int->Int->Bool}{w B:ag}{k:Nat}:∀i,1<=hr r w B k i/\(∀j,j<i->r (w.getD j 0) (w.getD k 0)=true->B.getD j 0+1<=hr r w B k i)/\(hr r w B k i=1\/∃j,j<i/\r (w.getD j 0) (w.getD k 0)=true/\hr r w B k i=B.getD j 0+1)
 | 0=>⟨dh _,λj h=>absurd h<|cL _,.inl rfl⟩
 | i+1=>by
  obtain⟨a,b,c⟩:=Mm (r:=r) (w:=w) (B:=B) (k:=k) i;have e:hr r w B k (i+1)=if r (w.getD i 0) (w.getD k 0)=true then(if B.getD i 0+1>hr r w B k i then B.getD i 0+1 else hr r w B k i)else hr r w B k i:=rfl
  by_cases q:r (w.getD i 0) (w.getD k 0)=true
  ·rw[aS q]at e;by_cases g:B.getD i 0+1>hr r w B k i
   ·rw[aS g]at e;rw[e];refine⟨(),λj f d=>?_,.inr ⟨i,bE _,q,rfl⟩⟩
    rcases dX.1 f with z|z
    ·have:=b j z d;lia
    ·subst z;exact dh _
   ·rw[aU g]at e;rw[e];refine⟨a,λj f d=>?_,c.imp id λ⟨j,h1,h2⟩=>⟨j,gU h1,h2⟩⟩
    rcases dX.1 f with z|z
    ·exact b j z d
    ·subst z;lia
  ·rw[aU q]at e;rw[e];refine⟨a,λj f d=>?_,c.imp id λ⟨j,h1,h2⟩=>⟨j,gU h1,h2⟩⟩
   rcases dX.1 f with z|z
   ·exact b j z d
   ·subst z;exact absurd d q
def kI{w:ag}{k:Nat}(h:k<w.length):w.drop k=w.getD k 0::w.drop (k+1):=by
 rw[bO h,aI,aH h];rfl
def RL{r:Int->Int->Bool}{x:Int}{v:ag}(a:Int):C r v a<=C r (x::v) a:=by rw[mY];lia
def QD{r:Int->Int->Bool}{x a:Int}{v:ag}(h:r a x=true):C r v x+1<=C r (x::v) a:=by rw[mY,aS h];lia
def Qy(r:Int->Int->Bool)(x:Int)(v:ag)(a:Int):C r (x::v) a=C r v a\/(r a x=true/\C r (x::v) a=C r v x+1):=by
 rw[mY];by_cases h:r a x=true
 ·rw[aS h];by_cases g:C r v x+1<=C r v a
  ·left;lia
  ·right;exact⟨h,()⟩
 ·rw[aU h];left;lia
theorem long{r:Int->Int->Bool}{w:ag}{a0:Int}(h0:∀x∈w,r a0 x=true):∀k,k<=w.length ->
  (∀j,j<k->(bs r w k).getD j 0+C r (w.drop k) (w.getD j 0)<=C r w a0)/\C r (w.drop k) a0<=C r w a0/\(C r (w.drop k) a0=C r w a0\/∃j,j<k/\(bs r w k).getD j 0+C r (w.drop k) (w.getD j 0)=C r w a0)
 | 0,_=>⟨λj h=>absurd h<|cL _,aO _,.inl rfl⟩
 | k+1,h=>by
  obtain⟨a,b,c⟩:=long h0 k ();obtain⟨p,q,s⟩:=Mm (r:=r) (w:=w) (B:=bs r w k) (k:=k) k;have e:=kI (w:=w) (k:=k) h;have hx:r a0 (w.getD k 0)=true:=h0 _ (by rw[aI,aH h];exact cU h);rw[e]at a b c;have up:=λy=>RL (r:=r) (x:=w.getD k 0) (v:=w.drop<|k+1) y;have i0:=QD (v:=w.drop<|k+1) hx;have all:∀j,j<k+1->(bs r w<|k+1).getD j 0+C r (w.drop<|k+1) (w.getD j 0)<=C r w a0:=λj F=>by
   rcases dX.1 F with z|z
   ·rw[HL z];have:=a j z;have:=up<|w.getD j 0;lia
   ·subst z;rw[xW]
    rcases s with s|⟨i,m,g,G⟩
    ·lia
    ·have:=a i m;have:=QD (v:=w.drop<|j+1) g;lia
  refine⟨all,bC (up a0) b,?_⟩;have f:=all k<|bE _;rw[xW]at f
  rcases c with c|⟨j,d,c⟩
  ·rcases Qy r (w.getD k 0) (w.drop<|k+1) a0 with z|⟨_,z⟩
   ·exact .inl ()
   ·exact .inr ⟨k,bE _,by rw[xW];lia⟩
  ·rcases Qy r (w.getD k 0) (w.drop<|k+1) (w.getD j 0)with z|⟨t,z⟩
   ·exact .inr ⟨j,(),by rw[HL d];lia⟩
   ·have:=q j d t;exact .inr ⟨k,bE _,by rw[xW];lia⟩
def best{r:Int->Int->Bool}{w:ag}{a0 m:Int}(h0:∀x∈w,r a0 x=true)(h1:m∈0::bs r w w.length)(h2:∀a∈0::bs r w w.length,a<=m):m=C r w a0:=by
 obtain⟨a,b,c⟩:=long h0 w.length<|aO _;rw[gh]at a b c;have z:∀y,C r [] y=0:=λ_=>rfl;dsimp[z]at a b c;have f:∀j,j<w.length->(bs r w w.length).getD j 0∈bs r w w.length:=λj d=>by
  rw[aI,aH<|by rw[nI];exact d];exact cU _
 have up:m<=C r w a0:=by
  rcases a_.1 h1 with e|e
  ·lia
  ·obtain⟨j,d,e⟩:=dN.1 e;rw[nI]at d;have:=a j d;rw[aI,aH<|by rw[nI];exact d,d8,e]at this
   lia
 have k:=h2 0 (aM ..)
 rcases c with c|⟨j,g,c⟩
 ·lia
 ·have:=h2 _<|aK _<|f j g;lia
meta abbrev En:=(Int×Int)×Int
abbrev lk (e:List En)(k:Int×Int):bj:=(e.find? λp=>decide<|p.1=k).map (·.2)
abbrev pt (e:List En)(k:Int×Int)(m:Int):List En:=if (lk e k).isSome=true then e.map (λp=>if p.1=k then(p.1,m)else p)else e++[(k,m)]
abbrev up' (e:List En)(k:Int×Int)(m:Int):List En:=if (lk e k).getD 0<m then pt e k m else e
abbrev t1 (x:Int)(e:List En)(p:En):List En:=if p.1.1<=x then up' e (x,p.1.2) (p.2+1)else e
abbrev tr (x:Int)(e:List En)(p:En):List En:=if p.1.2<=x then up' (t1 x e p) (p.1.1,x) (p.2+1)else t1 x e p
abbrev nx (x:Int)(H:List En):List En:=H.foldl (tr x) H
def l_(p:En)(e:List En)(k:Int×Int):lk (p::e) k=if p.1=k then some p.2 else lk e k:=by
 unfold lk;rw[cC];by_cases h:p.1=k
 ·rw[bh h,aS h];rfl
 ·rw[bx h,aU h]
theorem A1{k:Int×Int}:∀{e:List En},lk e k=none->k∉e.map (·.1)
 | [],_,h=>by cases h
 | p::e,h,z=>by
  rw[l_]at h;by_cases q:p.1=k
  ·rw[aS q]at h;cases h
  ·rw[aU q]at h
   rcases a_.1 z with z|z
   ·exact q z.symm
   ·exact A1 h z
theorem xr{k:Int×Int}{m:Int}:∀{e:List En},lk e k=some m->(k,m)∈e
 | [],h=>by cases h
 | p::e,h=>by
  rw[l_]at h;by_cases q:p.1=k
  ·rw[aS q]at h;cases h;subst q;exact aM ..
  ·rw[aU q]at h;exact aK _<|xr h
theorem yS{k:Int×Int}{m:Int}:∀{e:List En},(e.map (·.1)).Nodup->(k,m)∈e->lk e k=some m
 | [],_,h=>by cases h
 | p::e,nd,h=>by
  rw[bD,bP]at nd;rw[l_]
  rcases a_.1 h with z|z
  ·subst z;exact aS rfl
  ·rw[aU λq=>nd.1<|by rw[q];exact bK.2 ⟨_,z,rfl⟩];exact yS nd.2 z
theorem Bf{k:Int×Int}{q:En}:∀{e:List En},lk (e++[q]) k=(lk e k).or (if q.1=k then some q.2 else none)
 | []=>by rw[gw,l_];rfl
 | p::e=>by
  rw[gc,l_,l_,Bf];by_cases h:p.1=k
  ·rw[aS h,aS h];rfl
  ·rw[aU h,aU h]
theorem Jc{k j:Int×Int}{m:Int}:∀{e:List En},lk (e.map λp=>if p.1=k then(p.1,m)else p) j=if j=k then(lk e j).map λ_=>m else lk e j
 | []=>by split<;>rfl
 | p::e=>by
  rw[bD,l_,l_,Jc];by_cases h:p.1=k
  ·rw[aS h];by_cases g:p.1=j
   ·rw[aS g,aS g,aS<|g.symm.trans h];rfl
   ·rw[aU g,aU g]
  ·rw[aU h];by_cases g:p.1=j
   ·rw[aS g,aS g,aU λz=>h<|g.trans z]
   ·rw[aU g,aU g]
def CV(e:List En)(k j:Int×Int)(m:Int):lk (pt e k m) j=if j=k then some m else lk e j:=by
 unfold pt;by_cases h:(lk e k).isSome=true
 ·rw[aS h,Jc];by_cases g:j=k
  ·subst g;rw[aS rfl,aS rfl];obtain⟨z,d⟩:=cX.1 h;rw[d];rfl
  ·rw[aU g,aU g]
 ·rw[aU h,Bf];by_cases g:j=k
  ·subst g;rw[aS rfl,aS rfl]
   cases z:lk e j with
   | none=>rfl
   | some y=>rw[z]at h;exact absurd rfl h
  ·rw[aU<|cj g,aU g,Option.or_none]
def yx(e:List En)(k:Int×Int)(m:Int):(e.map λp=>if p.1=k then(p.1,m)else p).map (·.1)=e.map (·.1):=by
 rw[bM];refine fm λp _=>?_;show(if p.1=k then(p.1,m)else p).1=p.1;split<;>rfl
def P8{e:List En}{k:Int×Int}{m:Int}(h:(e.map (·.1)).Nodup):((pt e k m).map (·.1)).Nodup:=by
 unfold pt;by_cases g:(lk e k).isSome=true
 ·rw[aS g,yx];exact h
 ·rw[aU g,bV,cK];refine⟨h,cg ..,λa d b hb q=>?_⟩;have hb:b=k:=by simpa using hb
  subst hb q;exact A1 (by simpa using g) d
def OV{e:List En}{k j:Int×Int}{m:Int}(h:j∈(pt e k m).map (·.1)):j=k\/j∈e.map (·.1):=by
 unfold pt at h;by_cases g:(lk e k).isSome=true
 ·rw[aS g,yx]at h;exact .inr h
 ·rw[aU g,bV]at h
  rcases bA.1 h with h|h
  ·exact .inr h
  ·exact .inl<|by simpa using h
abbrev Ge (e:List En)(k:Int×Int)(m:Int):Prop:=∃m',lk e k=some m'/\m<=m'
structure Up (S:Int->Prop)(val:Int×Int->Int)(N:Int)(e:List En):Prop where
 nd:(e.map (·.1)).Nodup
 ks:∀k∈e.map (·.1),S k.1/\S k.2
 le:∀k m,lk e k=some m->0<=m/\m+val k<=N
def Ls{S:Int->Prop}{val:Int×Int->Int}{N:Int}{k:Int×Int}{m:Int}(h:Up S val N e)(J:S k.1/\S k.2)(hm:1<=m)(hv:m+val k<=N) :
  Up S val N (up' e k m)/\Ge (up' e k m) k m/\∀k' m',Ge e k' m'->Ge (up' e k m) k' m':=by
 unfold up';by_cases g:(lk e k).getD 0<m
 ·rw[aS g];refine⟨⟨P8 h.nd,λk' f=>?_,λk' m' d=>?_⟩,⟨m,by rw[CV,aS rfl],dh _⟩,λk' m' ⟨z,j,t⟩=>?_⟩
  ·rcases OV f with q|q
   ·rw[q];exact J
   ·exact h.ks k' q
  ·rw[CV]at d;by_cases q:k'=k
   ·rw[aS q]at d;cases d;subst q;exact⟨(),hv⟩
   ·rw[aU q]at d;exact h.le k' m' d
  ·by_cases q:k'=k
   ·subst q;rw[j]at g;have g:z<m:=g;exact⟨m,by rw[CV,aS rfl],()⟩
   ·exact⟨z,by rw[CV,aU q];exact j,t⟩
 ·rw[aU g];refine⟨h,?_,λ_ _ z=>z⟩
  cases e1:lk e k with
  | none=>rw[e1]at g;have g:¬(0:Int)<m:=g;lia
  | some z=>rw[e1]at g;have g:¬z<m:=g;exact⟨z,e1,()⟩
def Sb(x:Int)(v:ag)(a b:Int):G (x::v) a b=G v a b\/(a<=x/\G (x::v) a b=G v x b+1)\/(b<=x/\G (x::v) a b=G v a x+1):=by
 rw[lK];by_cases h:a<=x<;>by_cases h':b<=x<;>dsimp[h,h',eE,c_,true_and,false_and,or_false,false_or]<;>lia
abbrev vl (v:ag)(k:Int×Int):Int:=(G v k.1 k.2:Int)
def PM{S:Int->Prop}{N x:Int}{v:ag}{p:En}(h:Up S (vl v) N e)(hx:S x)(hp:S p.1.1/\S p.1.2)(j:0<=p.2)(pv:p.2+vl (x::v) p.1<=N) :
  Up S (vl v) N (tr x e p)/\(p.1.1<=x->Ge (tr x e p) (x,p.1.2) (p.2+1))/\(p.1.2<=x->Ge (tr x e p) (p.1.1,x) (p.2+1))/\∀k' m',Ge e k' m'->Ge (tr x e p) k' m':=by
 have one:Up S (vl v) N (t1 x e p)/\(p.1.1<=x->Ge (t1 x e p) (x,p.1.2) (p.2+1))/\∀k' m',Ge e k' m'->Ge (t1 x e p) k' m':=by
  unfold t1;by_cases q:p.1.1<=x
  ·rw[aS q];obtain⟨a,b,c⟩:=Ls (k:=(x,p.1.2)) (m:=p.2+1) h ⟨hx,hp.2⟩ () (by
    have:=L1 v p.1.2 q;unfold vl at *
    show p.2+1+(G v x p.1.2:Int)<=N
    lia)
   exact⟨a,λ_=>b,c⟩
  ·rw[aU q];exact⟨h,λz=>absurd z q,λ_ _ z=>z⟩
 obtain⟨h1,g1,m1⟩:=one;unfold tr;by_cases q:p.1.2<=x
 ·rw[aS q];obtain⟨a,b,c⟩:=Ls (k:=(p.1.1,x)) (m:=p.2+1) h1 ⟨hp.1,hx⟩ () (by
   have:=L2 v p.1.1 q;unfold vl at *
   show p.2+1+(G v p.1.1 x:Int)<=N
   lia)
  exact⟨a,λz=>c _ _<|g1 z,λ_=>b,λk' m' z=>c _ _<|m1 k' m' z⟩
 ·rw[aU q];exact⟨h1,g1,λz=>absurd z q,m1⟩
theorem Ai{S:Int->Prop}{N x:Int}{v:ag}(hx:S x):∀{P:List En}{e:List En},Up S (vl v) N e->(∀p∈P,(S p.1.1/\S p.1.2)/\0<=p.2/\p.2+vl (x::v) p.1<=N) ->
  Up S (vl v) N (P.foldl (tr x) e)/\(∀p∈P,(p.1.1<=x->Ge (P.foldl (tr x) e) (x,p.1.2) (p.2+1))/\(p.1.2<=x->Ge (P.foldl (tr x) e) (p.1.1,x) (p.2+1)))/\∀k' m',Ge e k' m'->Ge (P.foldl (tr x) e) k' m'
 | [],e,h,_=>⟨h,λp hp=>(nomatch hp),λ_ _ z=>z⟩
 | p::P,e,h,hP=>by
  obtain⟨m,j,C⟩:=hP p<|aM ..;obtain⟨B,t,k,g⟩:=PM h hx m j C;obtain⟨c1,c2,f⟩:=Ai hx B λq d=>hP q<|aK _ d;rw[List.foldl_cons];refine⟨c1,λq d=>?_,λk' m' z=>f k' m'<|g k' m' z⟩
  rcases a_.1 d with z|z
  ·subst z;exact⟨λy=>f _ _<|t y,λy=>f _ _<|k y⟩
  ·exact c2 q z
structure Best (S:Int->Prop)(N:Int)(v:ag)(H:List En):Prop where
 up:Up S (vl v) N H
 at_:∃k m,lk H k=some m/\m+vl v k=N
def Up.ent{S:Int->Prop}{val:Int×Int->Int}{N:Int}{e:List En}(h:Up S val N e){p:En}(hp:p∈e):(S p.1.1/\S p.1.2)/\0<=p.2/\p.2+val p.1<=N:=
 ⟨h.ks _<|bK.2 ⟨p,hp,rfl⟩,h.le _ _<|yS h.nd hp⟩
def Po{S:Int->Prop}{N x:Int}{v:ag}{H:List En}(h:Best S N (x::v) H)(hx:S x):Best S N v (nx x H):=by
 have j:Up S (vl v) N H:=⟨h.up.nd,h.up.ks,λk m e=>by
  have:=h.up.le k m e;have:=L0 x v k.1 k.2;unfold vl at *
  lia⟩
 obtain⟨a,b,c⟩:=Ai (v:=v) hx j λp hp=>h.up.ent hp;refine⟨a,?_⟩;obtain⟨k,m,e,q⟩:=h.at_;have d:∀f m',Ge (nx x H) f m'->m'+vl v f=N->∃k m,lk (nx x H) k=some m/\m+vl v k=N:=λf m' ⟨z,t,C⟩ B=>⟨f,z,t,by have:=(a.le f z t).2;lia⟩;have hp:=xr e;unfold vl at q
 rcases Sb x v k.1 k.2 with g|⟨g1,g⟩|⟨g1,g⟩
 ·exact d k m (c k m ⟨m,e,dh _⟩) (by unfold vl;lia)
 ·exact d _ _ ((b _ hp).1 g1) (by unfold vl;show m+1+(G v x k.2:Int)=N;lia)
 ·exact d _ _ ((b _ hp).2 g1)<|by unfold vl;show m+1+(G v k.1 x:Int)=N;lia
def hd0{S:Int->Prop}(h0:S 0)(v:ag):Best S (G v 0 0) v [((0,0),0)]:=by
 refine⟨⟨cg ..,λk d=>?_,λk m e=>?_⟩,(0,0),0,rfl,by show(0:Int)+(G v 0 0:Int)=_;lia⟩
 ·have q:k=(0,0):=bf.1 d;subst q;exact⟨h0,h0⟩
 ·have q:(k,m)=((0,0),0):=bf.1 (xr e)
  cases q
  exact⟨dh _,by show(0:Int)+(G v 0 0:Int)<=_;lia⟩
def top{S:Int->Prop}{N:Int}{H:List En}(b:Best S N [] H){m:Int}(h1:m∈H.map (·.2))(h2:∀a∈H.map (·.2),a<=m):m=N:=by
 obtain⟨k,n,e,q⟩:=b.at_;obtain⟨p,hp,rfl⟩:=bK.1 h1;have u:=(b.up.ent hp).2.2;have l:=h2 n<|bK.2 ⟨_,xr e,rfl⟩;have z:∀k,vl [] k=0:=λ_=>rfl;rw[z]at u q
 lia
end Gn
namespace Th
def par{H L X Y S T:Int}(f1:14029467366897019727 * X=8589934592 * H+L+18446744073709551616 * S)(f2:14029467366897019727 * Y=18446744073709551616 * T-11400714785074694791 * (2147483648 * L+H)) :
  ∃s t:Int,X=3250076511083954176 * H+839798700976720815 * L+18446744073709551616 * s/\Y=18131465553559158967 * H+11281517459552600064 * L+18446744073709551616 * t:=by
 have g1:X=839798700976720815 * (14029467366897019727 * X)-11781928470115413001220516028826517504 * X:=()
 have g2:Y=839798700976720815 * (14029467366897019727 * Y)-11781928470115413001220516028826517504 * Y:=()
 rw[f1]at g1;rw[f2]at g2;clear f1 f2;exact⟨839798700976720815 * S-638699622168397319 * X+391061744 * H,839798700976720815 * T-638699622168397319 * Y-519024139352440027 * H-1114595852176638264772398099 * L,g1.trans<|by clear g1 g2;lia,g2.trans<|by clear g1 g2;lia⟩
def lat{H L X Y S T:Int}(e1:14029467366897019727 * X=8589934592 * H+L+18446744073709551616 * S)(e2:14029467366897019727 * Y=18446744073709551616 * T-11400714785074694791 * (2147483648 * L+H)) :
  ∃n0 n1 n2 n3:Int,H=- 2450766760 * n0+2123783508 * n1+1950159432 * n2-4575840819 * n3/\L=- 4242304441 * n0-13313502988 * n1+4536215886 * n2-5183213341 * n3/\X=1011272585 * n0-659352884 * n1-1082452398 * n2-1191662547 * n3/\Y=920967912 * n0-604195060 * n1+1755844984 * n2-420186741 * n3:=by
 obtain⟨s,t,rfl,rfl⟩:=par e1 e2;clear e1 e2;exact⟨7784982497 * H+4479345825 * L+5686841676 * s+6900981546 * t,149822886 * H+172386789 * L-1235055683 * s+373812579 * t,5916852691 * H+3986570727 * L-4759283498 * s+6872842267 * t,- 1578328259 * H-620054596 * L-5647371940 * s-593478036 * t,(),(),(),()⟩
def small{H L X Y S T:Int}(e1:14029467366897019727 * X=8589934592 * H+L+18446744073709551616 * S)(e2:14029467366897019727 * Y=18446744073709551616 * T-11400714785074694791 * (2147483648 * L+H))
  (h1:-2147483648<H) (h2:H<2147483648) (M:-8589934592<L) (U:L<8589934592) (Z:-1000000000<=X) (x2:X<=1000000000) (y1:-1000000000<=Y) (y2:Y<=1000000000):H=0/\L=0/\X=0/\Y=0:=by
 obtain⟨G,t,z,B,g,k,j,m⟩:=lat e1 e2;clear e1 e2;have f:9223372036854775808 * G=- 610198403 * H-394750842 * L+2843420838 * X+3450490773 * Y:=()
 have d1:18446744073709551616 * t=1530220091 * H-1097262387 * L-1235055683 * X+373812579 * Y:=()
 have d2:18446744073709551616 * z=588328115 * H+17650614 * L-4759283498 * X+6872842267 * Y:=()
 have d:4611686018427387904 * B=- 604186573 * H-19725433 * L-1411842985 * X-148369509 * Y:=()
 have J:t=0:=by
  have u:18446744073709551616 * t<18446744073709551616:=by rw[d1];clear g k j m f d1 d2 d;lia
  have w:-18446744073709551616<18446744073709551616 * t:=by rw[d1];clear g k j m f d1 d2 d u;lia
  clear g k j m f d1 d2 d;lia
 have C:z=0:=by
  have u:18446744073709551616 * z<18446744073709551616:=by rw[d2];clear g k j m f d1 d2 d;lia
  have w:-18446744073709551616<18446744073709551616 * z:=by rw[d2];clear g k j m f d1 d2 d u;lia
  clear g k j m f d1 d2 d;lia
 have F:B=0:=by
  have u:4611686018427387904 * B<4611686018427387904:=by rw[d];clear g k j m f d1 d2 d;lia
  have w:-4611686018427387904<4611686018427387904 * B:=by rw[d];clear g k j m f d1 d2 d u;lia
  clear g k j m f d1 d2 d;lia
 subst J C F;clear f d1 d2 d
 lia
def none{H L X Y S T:Int}(e1:14029467366897019727 * X=8589934592 * H+L+18446744073709551616 * S-2870177450012600261)(e2:14029467366897019727 * Y=9148689060682678900+18446744073709551616 * T-11400714785074694791 * (2147483648 * L+H))
  (h1:0<=H) (h2:H<2147483648) (M:0<=L) (U:L<8589934592) (Z:0<=X) (x2:X<=1000000000) (y1:0<=Y) (y2:Y<=1000000000):False:=by
 obtain⟨z,t,B,C,g,k,j,m⟩:=lat (H:=H+796601469) (L:=L-2668123244) (X:=X-(1139847977)) (Y:=Y-(436116465)) (S:=S-866898784) (T:=T-3541180877351707623) (by rw[mul_sub,e1];clear e1 e2;lia) (by rw[mul_sub,e2];clear e1 e2;lia);clear e1 e2;have d:9223372036854775808 * z=- 610198403 * H-394750842 * L+2843420838 * X+3450490773 * Y-4178724375472304730:=()
 have d1:18446744073709551616 * t=1530220091 * H-1097262387 * L-1235055683 * X+373812579 * Y+5391356753129427163:=()
 have d2:18446744073709551616 * B=588328115 * H+17650614 * L-4759283498 * X+6872842267 * Y+2849069020356886510:=()
 have f:4611686018427387904 * C=- 604186573 * H-19725433 * L-1411842985 * X-148369509 * Y+1245326730756145945:=()
 have J:z=0:=by
  have u:9223372036854775808 * z<9223372036854775808:=by rw[d];clear g k j m d d1 d2 f;lia
  have w:-9223372036854775808<9223372036854775808 * z:=by rw[d];clear g k j m d d1 d2 f u;lia
  clear g k j m d d1 d2 f;lia
 have K:t=0:=by
  have u:18446744073709551616 * t<18446744073709551616:=by rw[d1];clear g k j m d d1 d2 f;lia
  have w:-18446744073709551616<18446744073709551616 * t:=by rw[d1];clear g k j m d d1 d2 f u;lia
  clear g k j m d d1 d2 f;lia
 have F:B=0:=by
  have u:18446744073709551616 * B<18446744073709551616:=by rw[d2];clear g k j m d d1 d2 f;lia
  have w:-18446744073709551616<18446744073709551616 * B:=by rw[d2];clear g k j m d d1 d2 f u;lia
  clear g k j m d d1 d2 f;lia
 have G:C=0:=by
  have u:4611686018427387904 * C<4611686018427387904:=by rw[f];clear g k j m d d1 d2 f;lia
  have w:-4611686018427387904<4611686018427387904 * C:=by rw[f];clear g k j m d d1 d2 f u;lia
  clear g k j m d d1 d2 f;lia
 subst J K F G;clear d d1 d2 f
 lia
end Th
namespace Th
open PySem
@[irreducible] noncomputable def rt (t:Nat):Nat:=(t * 2147483648) % 18446744073709551616+t / 8589934592
@[irreducible] noncomputable def st (a x:Nat):Nat:=(rt ((a+x * 14029467366897019727) % 18446744073709551616) * 11400714785074694791) % 18446744073709551616
def Cf{t:Nat}(h:t<18446744073709551616):rt t=2147483648 * (t % 8589934592)+t / 8589934592:=by unfold rt;lia
def HH{t:Nat}(h:t<18446744073709551616):rt t<18446744073709551616:=by rw[Cf h];lia
def Gq{t:Nat}(h:t<18446744073709551616)(h':u<18446744073709551616)(e:rt t=rt u):t=u:=by rw[Cf h,Cf h']at e;lia
def Af{r:Nat}(h:r<18446744073709551616):((r * 11400714785074694791) % 18446744073709551616 * 614540362697595703) % 18446744073709551616=r:=by
 rw[Nat.mod_mul_mod,Nat.mul_assoc,show 11400714785074694791 * 614540362697595703=1+18446744073709551616 * 379806830464837242 from rfl,Nat.mul_add,Nat.mul_one,Nat.mul_comm 18446744073709551616,<- Nat.mul_assoc,Nat.add_mul_mod_self_right,Nat.mod_eq_of_lt h]
def JF{r:Nat}(h:r<18446744073709551616)(h':u<18446744073709551616)(e:(r * 11400714785074694791) % 18446744073709551616=(u * 11400714785074694791) % 18446744073709551616):r=u:=by rw[<- Af h,e,Af h']
def Hr(a x:Nat):st a x<18446744073709551616:=by unfold st;exact eK _ ⋯
def MD{a x:Nat}(e:st a x=st b y):(a+x * 14029467366897019727) % 18446744073709551616=(b+y * 14029467366897019727) % 18446744073709551616:=by unfold st at e;exact Gq (eK _ ⋯) (eK _ ⋯) (JF (HH<|eK _ ⋯) (HH<|eK _ ⋯) e)
def one(x:Nat):∃h l S Q:Nat,h<2147483648/\l<8589934592/\(14029467366897019727:Int) * x=8589934592 * h+l+18446744073709551616 * S-2870177450012600261/\(st 2870177450012600261 x:Int)=(2147483648 * (l:Int)+h) * 11400714785074694791-18446744073709551616 * Q:=by
 have f:(2870177450012600261+x * 14029467366897019727) % 18446744073709551616<18446744073709551616:=eK _ ⋯;refine⟨(2870177450012600261+x * 14029467366897019727) % 18446744073709551616 / 8589934592,(2870177450012600261+x * 14029467366897019727) % 18446744073709551616 % 8589934592,(2870177450012600261+x * 14029467366897019727) / 18446744073709551616,rt ((2870177450012600261+x * 14029467366897019727) % 18446744073709551616) * 11400714785074694791 / 18446744073709551616,(),(),?_,?_⟩
 ·have:=fF (2870177450012600261+x * 14029467366897019727) 18446744073709551616;generalize(2870177450012600261+x * 14029467366897019727) / 18446744073709551616=S at *
  generalize(2870177450012600261+x * 14029467366897019727) % 18446744073709551616=A at *
  lia
 ·have e:=fF (rt ((2870177450012600261+x * 14029467366897019727) % 18446744073709551616) * 11400714785074694791) 18446744073709551616;have e2:=Cf f;unfold st;generalize rt ((2870177450012600261+x * 14029467366897019727) % 18446744073709551616)=r at *
  generalize(2870177450012600261+x * 14029467366897019727) % 18446744073709551616=A at *
  generalize r * 11400714785074694791 / 18446744073709551616=Q at *
  have d:((r * 11400714785074694791 % 18446744073709551616:Nat):Int)=(r:Int) * 11400714785074694791-18446744073709551616 * Q:=by
   generalize r * 11400714785074694791 % 18446744073709551616=z at *
   lia
  rw[d,e2];clear e e2 d
  lia
def LF(a x:Nat):st a x=(rt ((a+x * 14029467366897019727) % 18446744073709551616) * 11400714785074694791) % 18446744073709551616:=by unfold st;rfl
def RZ(t:Nat):rt t=(t * 2147483648) % 18446744073709551616+t / 8589934592:=by unfold rt;rfl
def RO{x l R a:Nat}(hx:x<=1000000000)(hy:y<=1000000000)(h1:h<2147483648)(J:l<8589934592)(e1:(14029467366897019727:Int) * x=8589934592 * h+l+18446744073709551616 * S-2870177450012600261)
  (e2:(a:Int)=(2147483648 * (l:Int)+h) * 11400714785074694791-18446744073709551616 * Q) (j:a+y * 14029467366897019727=18446744073709551616 * R+9148689060682678900):False:=by
 have d:(14029467366897019727:Int) * y=9148689060682678900+18446744073709551616 * (R:Int)-(a:Int):=by clear e1 e2;lia
 rw[e2]at d;clear j e2;refine none (H:=h) (L:=l) (X:=x) (Y:=y) (S:=S) (T:=(R:Int)+Q) e1 (d.trans ?_) (by clear d e1;lia) (by clear d e1;lia) (by clear d e1;lia) (by clear d e1;lia) (by clear d e1;lia) (by clear d e1;lia) (by clear d e1;lia) (by clear d e1;lia);clear d e1
 lia
def Je{x:Nat}(hx:x<=1000000000)(hy:y<=1000000000):(st (st 2870177450012600261 x) y+2870177450013471924) % 18446744073709551616≠18446744073709551616-1:=λz=>by
 have j:=Hr (st 2870177450012600261 x) y;have e:∀a:Nat,a<18446744073709551616->(a+2870177450013471924) % 18446744073709551616=18446744073709551616-1->a=18446744073709551616-1-2870177450013471924:=λa h1 h2=>()
 have e:=e _ j z;have d:=Af<|HH (t:=(st 2870177450012600261 x+y * 14029467366897019727) % 18446744073709551616)<|eK _ ⋯;rw[<- LF,e]at d;have k:rt 9148689060682678900=(18446744073709551616-1-2870177450013471924) * 614540362697595703 % 18446744073709551616:=by unfold rt;decide +kernel
 have m:=Gq (eK _ ⋯) ⋯ (d.symm.trans k.symm);obtain⟨h,l,S,Q,h1,g,e1,e2⟩:=one x;have f:=fF (st 2870177450012600261 x+y * 14029467366897019727) 18446744073709551616;rw[m]at f;exact RO hx hy h1 g e1 e2 f.symm
def Rr{x l R a M U:Nat}(hx:x<=1000000000)(hy:y<=1000000000)(Z:x'<=1000000000)(hy':y'<=1000000000)(h1:h<2147483648)(l1:l<8589934592)(h1':h'<2147483648)(l1':M<8589934592)
  (e1:(14029467366897019727:Int) * x=8589934592 * h+l+18446744073709551616 * S-2870177450012600261) (e2:(a:Int)=(2147483648 * (l:Int)+h) * 11400714785074694791-18446744073709551616 * Q)
  (j:(14029467366897019727:Int) * x'=8589934592 * h'+M+18446744073709551616 * S'-2870177450012600261) (J:(U:Int)=(2147483648 * (M:Int)+h') * 11400714785074694791-18446744073709551616 * Q')
  (d1:18446744073709551616 * R+B=a+y * 14029467366897019727) (d2:18446744073709551616 * R'+B=U+y' * 14029467366897019727):x=x'/\y=y':=by
 have d:(14029467366897019727:Int) * ((y:Int)-y')=18446744073709551616 * ((R:Int)-R')-((a:Int)-(U:Int)):=by
  clear e1 e2 j J
  lia
 rw[e2,J]at d;clear d1 d2 e2 J;have f1:(14029467366897019727:Int) * ((x:Int)-x')=8589934592 * ((h:Int)-h')+((l:Int)-M)+18446744073709551616 * ((S:Int)-S'):=by
  rw[mul_sub,e1,j];clear e1 j d
  lia
 clear e1 j;obtain⟨_,_,g,f⟩:=small (H:=(h:Int)-h') (L:=(l:Int)-M) (X:=(x:Int)-x') (Y:=(y:Int)-y') (S:=(S:Int)-S') (T:=(R:Int)-R'+Q-Q') f1 (d.trans<|by clear d f1;lia) (by clear d f1;lia) (by clear d f1;lia) (by clear d f1;lia) (by clear d f1;lia) (by clear d f1;lia) (by clear d f1;lia) (by clear d f1;lia) (by clear d f1;lia);clear d f1
 lia
def K5{x:Nat}(hx:x<=1000000000)(hy:y<=1000000000)(J:x'<=1000000000)(L:y'<=1000000000)(e:st (st 2870177450012600261 x) y=st (st 2870177450012600261 x') y'):x=x'/\y=y':=by
 have b:=MD e;obtain⟨h,l,S,Q,h1,k,e1,e2⟩:=one x;obtain⟨h',m,t,z,f,d,g,j⟩:=one x';have d1:=fF (st 2870177450012600261 x+y * 14029467366897019727) 18446744073709551616;have d2:=fF (st 2870177450012600261 x'+y' * 14029467366897019727) 18446744073709551616;rw[<- b]at d2;exact Rr hx hy J L h1 k f d e1 e2 g j d1 d2
theorem raw{x:Nat}(h:x<=1000000000):hashInt (x:Int)=(x:Int)/\((x:Int) % ((18446744073709551616:Nat):Int)).toNat=x:=by
 refine⟨?_,()⟩;have e:rawHash (x:Int)=(x:Int):=by
  dsimp[rawHash];have h1:(x:Int).natAbs % (2 ^ 61-1)=x:=by rw[Int.natAbs_natCast,Nat.mod_eq_of_lt ()]
  have h2:(((x:Int).natAbs % (2 ^ 61-1:Nat):Nat):Int)=(x:Int):=by rw[h1]
  have d:((x:Int).natAbs:Int) % ((2 ^ 61-1:Nat):Int)=(x:Int):=by rw[<- Int.natCast_emod];exact h2
  rw[d,aU<|show ¬(x:Int)<0 by lia,aU<|by rw[iu];lia]
 unfold hashInt;rw[e,aU];rw[iu];lia
abbrev fh (acc:Nat):Int:=if (acc == 18446744073709551616-1)=true then(1546275796:Int)else if acc<9223372036854775808 then(acc:Int)else(acc:Int)-18446744073709551616
abbrev stI (m p q acc:Nat)(h:Int):Nat:=
 let d:Nat:=11400714785074694791
 let f:Nat:=14029467366897019727
 let acc:=(acc+(h % (m:Int)).toNat * f) % m
 let acc:=(acc * p) % m+acc / q
 (acc * d) % m
abbrev QV (m r n acc:Nat):Int:=
 let acc:=(acc+n) % m
 if acc == m-1 then 1546275796 else if acc<r then acc else(acc:Int)-m
abbrev J3 (m p q r:Nat)(j:ag):Int:=QV m r (j.length ^^^ (2870177450012600261 ^^^ 3527539))<|j.foldl (stI m p q) 2870177450012600261
abbrev stN (m p q acc n:Nat):Nat:=(((acc+n * 14029467366897019727) % m * p) % m+(acc+n * 14029467366897019727) % m / q) * 11400714785074694791 % m
abbrev Q4 (m r acc:Nat):Int:=if acc == m-1 then 1546275796 else if acc<r then acc else(acc:Int)-m
def Qm(hs:ag):Builtin.Tuple.tupleHashOf hs=J3 (2 ^ 64) (2 ^ 31) (2 ^ 33) (2 ^ 63) hs:=by delta Builtin.Tuple.tupleHashOf J3 QV stI;rfl
def Qt(F:Nat->Int->Nat)(a:Nat)(x y:Int):List.foldl F a [x,y]=F (F a x) y:=rfl
def Mj(m p q a:Nat)(h:Int):stI m p q a h=stN m p q a (h % (m:Int)).toNat:=by delta stI stN;rfl
def Pk(m r n a:Nat):QV m r n a=Q4 m r ((a+n) % m):=by delta QV Q4;rfl
def RP(x y:Int):[x,y].length=2:=rfl
def Qc(m p q r:Nat)(x y:Int):J3 m p q r [x,y]=Q4 m r ((stN m p q (stN m p q 2870177450012600261 (x % (m:Int)).toNat) (y % (m:Int)).toNat+(2 ^^^ (2870177450012600261 ^^^ 3527539))) % m):=by
 delta J3;rw[Qt,Pk,RP,Mj,Mj]
def P5(a n:Nat):stN 18446744073709551616 2147483648 8589934592 a n=st a n:=by unfold stN;rw[LF,RZ]
def RQ(c:Nat):Q4 18446744073709551616 9223372036854775808 c=fh c:=rfl
def KO(x y:Int):Builtin.Tuple.tupleHashOf [x,y]=fh ((st (st 2870177450012600261 (x % ((18446744073709551616:Nat):Int)).toNat) (y % ((18446744073709551616:Nat):Int)).toNat+2870177450013471924) % 18446744073709551616):=by
 rw[Qm,show 2 ^ 64=18446744073709551616 by decide,show 2 ^ 31=2147483648 by decide,show 2 ^ 33=8589934592 by decide,show 2 ^ 63=9223372036854775808 by decide,Qc,show 2 ^^^ (2870177450012600261 ^^^ 3527539)=2870177450013471924 by decide,P5,P5,RQ]
def yX{x y:Nat}(hx:x<=1000000000)(hy:y<=1000000000):Am.hI [(x:Int),(y:Int)]=reduceHash (fh<|(st (st 2870177450012600261 x) y+2870177450013471924) % 18446744073709551616):=by
 unfold Am.hI;rw[bD,bD,dM,(raw hx).1,(raw hy).1,KO,(raw hx).2,(raw hy).2]
def Np(hc:c<18446744073709551616)(hd:d<18446744073709551616)(J:c≠18446744073709551616-1)(L:d≠18446744073709551616-1)(e:reduceHash (fh c)=reduceHash (fh d)):c=d:=by
 have f:∀c:Nat,c<18446744073709551616->c≠18446744073709551616-1->reduceHash (fh c)=if c<9223372036854775808 then(c:Int)else(c:Int)-18446744073709551616:=λc hc J=>by
  have e1:fh c=if c<9223372036854775808 then(c:Int)else(c:Int)-18446744073709551616:=by unfold fh;rw[aU<|by rw[iu];exact J]
  rw[e1];have g:-(2 ^ 63:Int)<=(if c<9223372036854775808 then(c:Int)else(c:Int)-18446744073709551616):=by split<;>lia
  have j:(if c<9223372036854775808 then(c:Int)else(c:Int)-18446744073709551616)<2 ^ 63:=by split<;>lia
  have k:(if c<9223372036854775808 then(c:Int)else(c:Int)-18446744073709551616)≠-1:=by split<;>lia
  generalize(if c<9223372036854775808 then(c:Int)else(c:Int)-18446744073709551616)=z at *
  unfold reduceHash;rw[aS<|by rw[bh g,bh j];rfl,aU<|by rw[iu];exact k]
 rw[f c hc J,f d hd L]at e;split at e<;>split at e<;>lia
def pairs{x y J L:Int}(hx:0<=x/\x<=1000000000)(hy:0<=y/\y<=1000000000)(M:0<=J/\J<=1000000000)(U:0<=L/\L<=1000000000)(e:Am.hI [x,y]=Am.hI [J,L]):x=J/\y=L:=by
 obtain⟨a,rfl⟩:=eg hx.1;obtain⟨b,rfl⟩:=eg hy.1;obtain⟨c,rfl⟩:=eg M.1;obtain⟨d,rfl⟩:=eg U.1;rw[yX () (),yX () ()]at e;have q:=Np (eK _ ⋯) (eK _ ⋯) (Je () ()) (Je () ()) e;have g:=Hr (st 2870177450012600261 a) b;have j:=Hr (st 2870177450012600261 c) d;have f:∀u v:Nat,u<18446744073709551616->v<18446744073709551616->(u+2870177450013471924) % 18446744073709551616=(v+2870177450013471924) % 18446744073709551616->u=v:=λu v h1 h2 k=>()
 have:=K5 () () () () (f _ _ g j q)
 lia
end Th
namespace K63
open PySem L2 Am
abbrev ct (Q:List<|ag)(m:Int):ag:=(Q.map λr=>((r.filter λx=>decide<|x<=m).length:Int)).filter λz=>decide<|z>0
def p9(q:ag)(Q:List<|ag)(m:Int):ct (q::Q) m=if ((q.filter λx=>decide<|x<=m).length:Int)>0 then((q.filter λx=>decide<|x<=m).length:Int)::ct Q m else ct Q m:=by
 unfold ct;rw[bD,gf];by_cases h:((q.filter λx=>decide<|x<=m).length:Int)>0
 ·rw[aS h,aS<|bh h]
 ·rw[aU h,aU<|by rw[bx h];exact bg]
theorem FP{m k:Int}(h:m<k):∀(Q:List<|ag) (i:Nat),ct (Tb.add Q i k) m=ct Q m
 | [],_=>by
  show ct [[k]] m=_;have e:([k]:ag).filter (λx=>decide<|x<=m)=[]:=by rw[fL<|by rw[bx ()];exact bg];rfl
  rw[p9,e,aU<|by rw[dG];lia]
 | q::Q,0=>by
  show ct ((q++[k])::Q) m=_;have e:(q++[k]).filter (λx=>decide<|x<=m)=q.filter λx=>decide (x<=m):=by
   rw[List.filter_append,fL<|by rw[bx ()];exact bg,List.filter_nil,bI]
  rw[p9,p9,e]
 | q::Q,i+1=>by
  show ct (q::Tb.add Q i k) m=_;rw[p9,p9,FP h Q i]
theorem IJ{m:Int}:∀{Q:List<|ag},(∀q∈Q,q≠[]/\∀x∈q,x<=m)->ct Q m=Q.map λr=>(r.length:Int)
 | [],_=>rfl
 | q::Q,h=>by
  obtain⟨h1,h2⟩:=h q<|aM ..;have e:q.filter (λx=>decide<|x<=m)=q:=cR.2 λx hx=>bh<|h2 x hx;have l:=b8.2 h1;rw[p9,e,aS (),IJ λp hp=>h p<|aK _ hp];rfl
theorem LH(xs:ag)(m:Nat):∀n,ct (Tb.tabs xs<|m+n).2 m=(Tb.tabs xs m).1.map λr=>(r.length:Int)
 | 0=>by
  have f:((Tb.tabs xs m).2.map λr=>(r.length:Int))=(Tb.tabs xs m).1.map λr=>(r.length:Int):=by
   have:=cA (List.map λn:Nat=>(n:Int))<|Tb.jH xs m;rw[bM,bM]at this;exact this
  rw[<- f];refine IJ λq d=>⟨λz=>?_,λx hx=>?_⟩
  ·have h1:q.length∈(Tb.tabs xs m).1.map List.length:=by rw[<- Tb.jH];exact bK.2 ⟨q,d,rfl⟩
   have:=Tb.ve xs m _ h1;rw[z]at this;cases this
  ·have:=pX.1 ((s_ xs m).mem_iff.1<|cH.2 ⟨q,d,hx⟩)
   lia
 | n+1=>by
  rw[<- LH xs m n];show ct (Tb.add _ _<|((m+n:Nat):Int)+1) m=_;exact FP () _ _
def GN{xs:ag}(h:m<=xs.length):ct (Tb.tabs xs xs.length).2 m=((xs.take m).foldl Tb.put []).map λr=>(r.length:Int):=by
 have:=LH xs m<|xs.length-m;rw[show m+(xs.length-m)=xs.length by lia]at this;rw[this,Mo.mz xs m h]
end K63
namespace K63
open PySem L2 Am
abbrev rl (d:Bool):Int->Int->Bool:=if d=true then Gn.gt else Gn.le
def M6{w:ag}{j:Int}(h:i<w.length)(e:j=i):oY (w.map A.int) j=some (.int<|w.getD i 0):=by
 subst e;rw[aI,aH h];exact uc (k:=i) ()<|aH h
def Oo{k:Nat}{w bs:ag}(J:iC S L=some (w.map .int))(M:iC S B=some (bs.map .int))(U:k<w.length)(hb:bs.length=k)(Z:w.length<=100) :
  ∃a5' a6',m8 lJ (je 5) lY [.ref L,.bl d,.ref B,.int k,.int 1,a5,a6] S=.nx [.ref L,.bl d,.ref B,.int k,.int<|Gn.hr (rl d) w bs k k,a5',a6'] S:=by
 refine rG (lo:=0) (hi:=k) (S1:=S) (show lJ _ _=_ from pF (by dsimp[i8,bools])<|mU () ())
  (λi τ S1=>∃a5' a6',τ=[.ref L,.bl d,.ref B,.int k,.int<|Gn.hr (rl d) w bs k i,a5',a6']/\S1=S)
  (λr=>∃a5' a6',r=.nx [.ref L,.bl d,.ref B,.int k,.int<|Gn.hr (rl d) w bs k k,a5',a6'] S) ⟨_,_,rfl,rfl⟩ ?_ ?_
 ·rintro i τ S1 hi ⟨a5',a6',rfl,rfl⟩;left;have m:=M6 (w:=w) (i:=i) (j:=0+(i:Int)) () ();have f:=M6 (w:=w) (i:=k) (j:=(k:Int)) U rfl;have g:=M6 (w:=bs) (i:=i) (j:=0+(i:Int)) () ();have e:Gn.hr (rl d) w bs k (i+1)=if rl d (w.getD i 0) (w.getD k 0)=true then(if bs.getD i 0+1>Gn.hr (rl d) w bs k i then bs.getD i 0+1 else Gn.hr (rl d) w bs k i)else Gn.hr (rl d) w bs k i:=rfl
  rw[e];generalize Gn.hr (rl d) w bs k i=h;unfold lY
  cases d
  ·have r0:rl false (w.getD i 0) (w.getD k 0)=decide (w.getD i 0<=w.getD k 0):=rfl;rw[r0];by_cases q:w.getD i 0<=w.getD k 0
   ·dsimp[i8,bools,J,M,m,f,g,bh q,eE];exact⟨_,_,rfl,_,_,rfl,rfl⟩
   ·dsimp[i8,bools,J,M,m,f,g,bx q];exact⟨_,_,rfl,_,_,rfl,rfl⟩
  ·have r0:rl true (w.getD i 0) (w.getD k 0)=decide (w.getD k 0<w.getD i 0):=rfl;rw[r0];by_cases q:w.getD k 0<w.getD i 0
   ·dsimp[i8,bools,J,M,m,f,g,bh q,eE];exact⟨_,_,rfl,_,_,rfl,rfl⟩
   ·dsimp[i8,bools,J,M,m,f,g,bx q];exact⟨_,_,rfl,_,_,rfl,rfl⟩
 ·rintro τ S1 ⟨a5',a6',rfl,rfl⟩;exact⟨_,_,rfl⟩
def EV{w:ag}(h:iC S L=some (w.map .int))(M:w.length<=100)(d:Bool) :
  ∃(m:Int) (S':iH),jV [.ref L,.bl d] S=.ok (.int m) S'/\mQ S S'/\m∈0::Gn.bs (rl d) w w.length/\∀a∈0::Gn.bs (rl d) w w.length,a<=m:=by
 have J:=mO h;have gl:∀T:iH,iC T L=some (w.map .int)->kX (.ref L) T=.ok (.int w.length) T:=λT C=>by dsimp[i8,bools,C,aN]
 unfold jV nH nG;dsimp[i8,bools,mj,Nat.reduceAdd,Nat.reduceSub];have t:mQ S (S++[O.lst []]):=Kp.refl.lay;refine rG (lo:=0) (hi:=w.length) (S1:=S++[.lst []]) (show oV _ _=_ from pF (by dsimp[i8,bools,gl _<|t.lst _ _ (λz=>z) h])<|mU () ())
  (λi τ S1=>∃j k a5 a6,τ=[.ref L,.bl d,.ref S.length,j,k,a5,a6]/\iC S1 S.length=some ((Gn.bs (rl d) w i).map .int)/\mQ S S1)
  (λr=>∃(m:Int) (S':iH),RS.end (RS.seq r _)=.ok (.int m) S'/\mQ S S'/\m∈0::Gn.bs (rl d) w w.length/\∀a∈0::Gn.bs (rl d) w w.length,a<=m) ⟨_,_,_,_,rfl,iW,t⟩ ?_ ?_
 ·rintro i τ S1 hi ⟨j,k,a5,a6,rfl,g,k1⟩;left;have hi:i<w.length:=()
  obtain⟨F,G,e⟩:=Oo (d:=d) (a5:=a5) (a6:=a6) (k1.lst _ _ (λz=>z) h) g hi (Gn.nI ..) M;have lB:=mO g;unfold oW;have z:(0:Int)+(i:Int)=i:=Int.zero_add _;dsimp[i8,bools,z,e,g,aN,Gn.nI,q_<|show i<16777216 by lia];refine⟨_,_,rfl,_,_,_,_,rfl,?_,k1.set<|.inr<|aO _⟩;rw[oM lB];show _=some ((Gn.bs (rl d) w i++[_]).map _);rw[bV];rfl
 ·rintro τ S1 ⟨j,k,a5,a6,rfl,g,k1⟩;have e0:((w.length:Int)-0).toNat=w.length:=()
  rw[e0]at g;obtain⟨S2,f⟩:∃S2,S2=S1++[O.lst [.int 0]]:=⟨_,rfl⟩;have B:ow (.ref S1.length) (.ref S.length) S2=.ok (.ref S2.length) (S2++[O.lst<|(0::Gn.bs (rl d) w w.length).map .int]):=
   PR (xs:=[.int 0]) (ys:=(Gn.bs (rl d) w w.length).map .int) (by rw[f];exact iW) (by rw[f];exact lC g) (by rw[aN,Gn.nI];show 1+_<=_;lia)
  obtain⟨m,e,h1,h2⟩:=yE (S:=S2++[O.lst<|(0::Gn.bs (rl d) w w.length).map .int]) (n:=S2.length) (ns:=0::Gn.bs (rl d) w w.length) iW (by simp);refine⟨m,S2++[O.lst<|(0::Gn.bs (rl d) w w.length).map .int],?_,by rw[f];exact k1.lay.lay,h1,h2⟩;dsimp[i8,bools,jv<|show([A.int 0]:ae).length<=16777216 by decide,<- f,B,e]
end K63
namespace K63
open PySem L2 Am
abbrev pI (m:Int)(x:A):Bool:=match x with
 | .int v=>decide (v<=m)
 | _=>false
abbrev pG (x:A):Bool:=match x with
 | .int v=>decide (v>0)
 | _=>false
def NF{n:Nat}{Q:List<|ag}{m:Int}(h:Tab S n rs Q)(j:Q.length<=100)(hr:∀i,(Q.getD i []).length<=100) :
  ∃(L:Nat) (S':iH),nU [.ref n,.int m] S=.ok (.ref L) S'/\iC S' L=some ((ct Q m).map .int)/\mQ S S':=by
 have gl:=h.len;have c1:∃S1,jE [none,some 1] (jW<|iB 0) (je 0) jK (iY (f1 kX)<|iD (jE [none,some 1] (jW<|iB 0) (je 0) (qe<|iR xZ (iB 0)<|iB 1)<|iB 0) iO) [.ref n,.int m,.unb] S=.ok (.ref S1.length) (S1++[O.lst<|(Q.map λr=>((r.filter λx=>decide<|x<=m).length:Int)).map .int])/\mQ S S1:=by
  obtain⟨S1,h1,h2⟩:=oJ (s:=jd n rs.length) (g:=je 0) (t:=jK) (e:=iY (f1 kX)<|iD (jE [none,some 1] (jW<|iB 0) (je 0) (qe<|iR xZ (iB 0)<|iB 1)<|iB 0) iO) (P:=λT=>mQ S T) (T:=λd=>∃y,d=[y,.int m])
   (λi=>.ref<|rs.getD i 0) (λ_=>true) (λi=>.int (((Q.getD i []).filter λx=>decide<|x<=m).length:Int))
   (λi T hi k=>by
    have hi:i<rs.length:=hi;show(iC T n).bind _=_;rw[k.lst _ _ (λz=>z) h.top,cG,aY,aH hi,aI,aH hi];rfl)
   (λT k=>by
    show(match iC T n with
     | some ys=>decide (ys.length<=rs.length)
     | none=>false)=true
    rw[k.lst _ _ (λz=>z) h.top];simp)
   (λi d T hi ⟨y,hy⟩ k=>by
    have hi:i<rs.length:=hi;subst hy;have g:=k.lst _ _ (λz=>z) (h.rows.get (i:=i) (r:=rs.getD i 0)<|by rw[aI,aH hi];rfl).2;have e:=uG (S:=T) (cap:=[some 1]) (τ:=[.ref<|rs.getD i 0,.int m]) (src:=jW<|iB 0) (t:=qe<|iR xZ (iB 0)<|iB 1) (e:=iB 0) (k_ (by dsimp[i8,bools]) g) g (pI m) id (λx hx=>by
      obtain⟨v,_,rfl⟩:=bK.1 hx;dsimp[i8,bools];rfl) (λx hx _=>by
      obtain⟨v,_,rfl⟩:=bK.1 hx;dsimp[i8,bools];rfl) (by rw[aN];have:=hr i;lia)
    refine⟨[.ref<|rs.getD i 0,.int m],T,T,rfl,rfl,⟨_,rfl⟩,λz=>(by cases z),λ_=>⟨T++[O.lst<|((Q.getD i []).filter λx=>decide<|x<=m).map .int],?_,k.lay⟩⟩;have f:((((Q.getD i []).map A.int).filter<|pI m).map id)=(((Q.getD i []).filter λx=>decide<|x<=m).map A.int):=by rw[map_id,iy];rfl
    rw[f]at e;dsimp[i8,bools,e,iW,aN])
   rs.length 0 (lH [none,some 1] [.ref n,.int m,.unb]) S rfl ⟨_,rfl⟩ Kp.refl
  refine⟨S1,?_,h2⟩;show(jW (iB 0) _ S).bind (λs S1=>(jS s _ _ _ s.k 0 _ S1).jh λys S2=>newL ys S2)=_;have hs:jW (iB 0) [.ref n,.int m,.unb] S=.ok (jd n rs.length) S:=by
   have:=k_ (c:=iB 0) (τ:=[.ref n,.int m,.unb]) (S:=S) (by dsimp[i8,bools]) h.top;rw[aN]at this;exact this
  rw[hs,R.jR];show R.jh (jS (jd n rs.length) _ _ _ rs.length 0 _ _) _=_;rw[h1,R.jc,<- gp,uF];have f:(List.range rs.length).map (λi=>A.int (((Q.getD i []).filter λx=>decide<|x<=m).length:Int))=(Q.map λr=>((r.filter λx=>decide<|x<=m).length:Int)).map .int:=by
   rw[gl];refine List.ext_getElem (by simp) λi h1 h2=>?_;have hi:i<Q.length:=by simpa using h1
   simp[aI,aH hi]
  rw[f];exact jv<|by rw[aN,aN];lia
 obtain⟨S1,e1,k1⟩:=c1;have g1:iC (S1++[O.lst<|(Q.map λr=>((r.filter λx=>decide<|x<=m).length:Int)).map .int]) S1.length=some ((Q.map λr=>((r.filter λx=>decide<|x<=m).length:Int)).map .int):=iW;have e2:=uG (cap:=[]) (τ:=[.ref n,.int m,.ref S1.length]) (src:=jW<|iB 2) (t:=qe<|iR MT (iB 0)<|eC<|.int 0) (e:=iB 0) (k_ (by dsimp[i8,bools]) g1) g1 (pG) id (λx hx=>by
   obtain⟨v,_,rfl⟩:=bK.1 hx;dsimp[i8,bools];rfl) (λx hx _=>by
      obtain⟨v,_,rfl⟩:=bK.1 hx;dsimp[i8,bools];rfl)<|by rw[aN,aN];lia
 have f2:((((Q.map λr=>((r.filter λx=>decide<|x<=m).length:Int)).map A.int).filter pG).map id)=(ct Q m).map A.int:=by rw[map_id,iy];rfl
 rw[f2]at e2;refine⟨_,S1++[O.lst<|(Q.map λr=>((r.filter λx=>decide<|x<=m).length:Int)).map .int]++[O.lst<|(ct Q m).map .int],?_,iW,k1.lay.lay⟩;unfold nU sZ tw;dsimp[i8,bools,mj,Nat.reduceAdd,Nat.reduceSub,e1,e2]
end K63
namespace K63
open PySem L2 Am
abbrev ed (e:List Gn.En):List (ag×A):=e.map λp=>([p.1.1,p.1.2],A.int p.2)
theorem qd{a b:Int}:∀{e:List Gn.En},j3 (ed e) [a,b]=(Gn.lk e (a,b)).map A.int
 | []=>rfl
 | p::e=>by
  rw[Gn.l_];by_cases h:p.1=(a,b)
  ·rw[aS h];exact wG (p:=([p.1.1,p.1.2],A.int p.2)) (by rw[h])
  ·rw[aU h,<- qd];refine vX (p:=([p.1.1,p.1.2],A.int p.2)) λz=>h ?_
   injection z with f d
   injection d with d
   exact iz f d
def MO{a b m:Int}:putD (ed e) [a,b] (.int m)=ed (Gn.pt e (a,b) m):=by
 unfold putD Gn.pt;rw[qd,isSome_map];by_cases h:(Gn.lk e (a,b)).isSome=true
 ·rw[aS h,aS h];unfold ed;rw[bM,bM];refine fm λp _=>?_;show(if [p.1.1,p.1.2]=[a,b]then([p.1.1,p.1.2],A.int m)else([p.1.1,p.1.2],A.int p.2))=_;by_cases q:p.1=(a,b)
  ·have f:[p.1.1,p.1.2]=[a,b]:=by rw[q]
   rw[aS f];show _=([(if p.1=(a,b)then(p.1,m)else p).1.1,(if p.1=(a,b)then(p.1,m)else p).1.2],A.int (if p.1=(a,b)then(p.1,m)else p).2);rw[aS q]
  ·have f:¬[p.1.1,p.1.2]=[a,b]:=λz=>q (by injection z with g d;injection d with d;exact iz g d);rw[aU f];show _=([(if p.1=(a,b)then(p.1,m)else p).1.1,(if p.1=(a,b)then(p.1,m)else p).1.2],A.int (if p.1=(a,b)then(p.1,m)else p).2);rw[aU q]
 ·rw[aU h,aU h];unfold ed;rw[bV];rfl
def xQ{S:iH}{n:Nat}(h:n<S.length):jJ (S.set n<|.dct d) n=some d:=rJ<|bG h
def Jx{S:iH}{n:Nat}(h:m≠n):ny (S.set m o) n=ny S n:=by unfold ny;rw[bF h]
def uH{S:iH}{n:Nat}(h:jJ S n=some d):S.set n (.dct d)=S:=by
 exact nM<|jF h
def A_{u x m k1 k2:Int}{q:Nat}{T:iH}{e:List Gn.En}{cu ck:Ex}(J:cu τ T=.ok (.int u) T)(h2:iB 2 τ T=.ok (.int x) T)(L:∀T,iB 3 τ T=.ok (.ref q) T)(h6:∀T,iB 6 τ T=.ok (.int m) T)
  (M:∀T,ck τ T=.ok (.tup [.int k1,.int k2]) T) (hd:jJ T q=some (ed e)) (U:e.length<1000) :
  vD (vC (qe<|iR xZ cu<|iB 2)<|qe<|iR EA (Dw Ag (iB 3)<|iD ck<|iD (eC<|.int 0) iO)<|iB 6) (jn (iB 6)<|Aj (iB 3) ck) nY τ T=.nx τ (T.set q<|.dct<|ed<|if u<=x then Gn.up' e (k1,k2) m else e):=by
 have le:(ed e).length<16777216:=by unfold ed;rw[aN];lia
 have g1:(vC (qe<|iR xZ cu<|iB 2)<|qe<|iR EA (Dw Ag (iB 3)<|iD ck<|iD (eC<|.int 0) iO)<|iB 6) τ T=.ok (decide (u<=x) && decide ((Gn.lk e (k1,k2)).getD 0<m)) T:=by
  have g:Ag (.ref q) [.tup [.int k1,.int k2],.int 0] T=.ok (.int<|(Gn.lk e (k1,k2)).getD 0) T:=by
   show opt (jJ T q) _=_;rw[hd,iU];show R.ok ((j3 (ed e) [k1,k2]).getD<|.int 0) T=_;rw[qd]
   cases Gn.lk e (k1,k2)<;>rfl
  have j:dct? (.ref q) T=some Unit.unit:=by
   show(jJ T q).map _=_;rw[hd];rfl
  have f:Dw Ag (iB 3) (iD ck<|iD (eC<|.int 0) iO) τ T=.ok (.int<|(Gn.lk e (k1,k2)).getD 0) T:=by
   have l:(iD ck<|iD (eC<|.int 0) iO) τ T=.ok [.tup [.int k1,.int k2],.int 0] T:=by dsimp[i8,bools,M]
   show(iB 3 τ T).bind _=_;rw[L,R.jR];show opt (dct? (.ref q) T) _=_;rw[j,iU,l];exact g
  by_cases c:u<=x
  ·dsimp[i8,bools,J,h2,h6,f,bh c,gZ]
  ·dsimp[i8,bools,J,h2,bx c,Bool.false_and]
 have g2:jn (iB 6) (Aj (iB 3) ck) τ T=.nx τ (T.set q<|.dct<|ed<|Gn.pt e (k1,k2) m):=by
  have s:Jb (.ref q) (.tup [.int k1,.int k2]) (.int m) T=.ok Unit.unit (T.set q<|.dct<|ed<|Gn.pt e (k1,k2) m):=by
   show opt (jJ T q) _=_;rw[hd,iU];show gd ((ed e).length<sizeLine) (R.ok Unit.unit<|T.set q<|.dct<|putD (ed e) [k1,k2]<|.int m)=_;rw[q_ le,MO]
  have t:Aj (iB 3) ck (.int m) τ T=.ok τ (T.set q<|.dct<|ed<|Gn.pt e (k1,k2) m):=by
   unfold Aj;dsimp[i8,bools,L,M,s]
  dsimp[i8,bools,h6,t]
 show RS.of ((vC _ _) τ T) _=_;rw[g1];by_cases c:u<=x
 ·rw[aS c,bh c,gZ];unfold Gn.up';by_cases d:(Gn.lk e (k1,k2)).getD 0<m
  ·rw[aS d,bh d];exact g2
  ·rw[aU d,bx d,uH hd];rfl
 ·rw[aU c,bx c,uH hd];rfl
end K63
namespace K63
open PySem L2 Am
def NO(e:List Gn.En)(k:Int×Int)(m:Int):(Gn.pt e k m).length<=e.length+1:=by
 unfold Gn.pt;split
 ·rw[aN];lia
 ·rw[aV];exact aO _
def Ol(x:Int)(e:List Gn.En)(p:Gn.En):(Gn.t1 x e p).length<=e.length+1:=by
 unfold Gn.t1 Gn.up';split
 ·split
  ·exact NO ..
  ·lia
 ·lia
def M4{w:ag}{val:Int×Int->Int}{N:Int}{e:List Gn.En}(h:Gn.Up (·∈0::w) val N e):e.length<=(w.length+1) * (w.length+1):=by
 have d:∀k∈e.map (·.1),k∈(0::w).flatMap λa=>(0::w).map λb=>(a,b):=λk j=>by
  obtain⟨h1,h2⟩:=h.ks k j;exact List.mem_flatMap.2 ⟨k.1,h1,bK.2 ⟨k.2,h2,rfl⟩⟩
 have few:∀{l M:List<|Int×Int},l.Nodup->(∀x∈l,x∈M)->l.length<=M.length:=by
  intro l
  induction l with
  | nil=>intro M _ _;exact bL _
  | cons a l f=>
   intro M nd s;rw[bP]at nd;have g:=s a<|aM ..;have:=f (M:=M.erase a) nd.2 λy hy=>by
    have:y≠a:=λz=>nd.1<|z ▸ hy;exact(List.mem_erase_of_ne this).2 (s y<|aK _ hy)
   rw[List.length_erase_of_mem g]at this;have:=fS g;rw[bw];lia
 have l:=few h.nd d;have fl:∀(u v:ag),(u.flatMap λa=>v.map λb=>(a,b)).length=u.length * v.length:=by
  intro u v
  induction u with
  | nil=>rw[List.flatMap_nil,dG,dG,Nat.zero_mul]
  | cons a u f=>rw[List.flatMap_cons,aV,f,aN,bw,succ_mul,Nat.add_comm]
 rw[aN,fl,bw]at l;exact l
def EC{T:iH}{n q:Nat}{x:Int}{H:List Gn.En}(hn:jJ T n=some (ed H))(U:jJ T q=some (ed H))(Z:n≠q)(nd:(H.map (·.1)).Nodup)(hb:∀i,((H.take i).foldl (Gn.tr x) H).length<900) :
  ∃a4' a5' a6',m8 tQ (Ak 2<|tN (je 4)<|tN (je 5) CC) p8 [.ref L,.ref n,.int x,.ref q,a4,a5,a6] T=.nx [.ref L,.ref n,.int x,.ref q,a4',a5',a6'] ((T.set n<|.dcf<|ed H).set q<|.dct<|ed<|Gn.nx x H):=by
 obtain⟨f,g⟩:∃f,f=T.set n (O.dcf<|ed H):=⟨_,rfl⟩;have B:n<T.length:=qt<|jF hn;have t:q<f.length:=by rw[g,bH];exact qt (jF U)
 have F:jJ f q=some (ed H):=by
  rw[g];refine rJ ?_;rw[bF Z];exact jF U
 have C:ny f n=some (ed H):=by
  unfold ny;rw[g,bG B]
 have G:∀d,ny (f.set q<|.dct d) n=some (ed H):=λd=>by rw[Jx<|cj Z];exact C
 rw[<- g];refine CQ (xs:=(ed H).map Nj) (S1:=f) (by
   show MW (.ref n) T=_;show opt (jJ T n) _=_;rw[hn,iU,<- g])
  (λi τ S1=>∃a4' a5' a6',τ=[.ref L,.ref n,.int x,.ref q,a4',a5',a6']/\S1=f.set q (.dct<|ed<|(H.take i).foldl (Gn.tr x) H))
  (λr=>∃a4' a5' a6',r=.nx [.ref L,.ref n,.int x,.ref q,a4',a5',a6'] (f.set q<|.dct<|ed<|Gn.nx x H)) ⟨_,_,_,rfl,by rw[List.take_zero];exact(uH F).symm⟩ ?_ ?_
 ·rintro i X τ S1 z ⟨a4',a5',a6',rfl,rfl⟩;rw[aY]at z;obtain⟨N,j,rfl⟩:=bu.1 z;unfold ed at j;rw[aY]at j;obtain⟨p,hp,rfl⟩:=bu.1 j;have K:H.take (i+1)=H.take i++[p]:=by rw[List.take_add_one,hp];rfl
  have sp:(H.take<|i+1).foldl (Gn.tr x) H=Gn.tr x ((H.take i).foldl (Gn.tr x) H) p:=by rw[K,c7];rfl
  have J:=hb i;rw[sp];generalize(H.take i).foldl (Gn.tr x) H=e at J;have k:j3 (ed H) [p.1.1,p.1.2]=some (.int p.2):=by
   rw[qd,Gn.yS nd (m:=p.2)<|bz hp];rfl
  have M:xS (.ref n) (.tup [.int p.1.1,.int p.1.2]) (f.set q<|.dct<|ed e)=.ok (.int p.2) (f.set q<|.dct<|ed e):=by
   show opt (ny _ n) _=_;rw[G,iU];show opt (j3 (ed H) [p.1.1,p.1.2]) _=_;rw[k,iU]
  refine⟨[.ref L,.ref n,.int x,.ref q,.int p.1.1,.int p.1.2,a6'],f.set q<|.dct<|ed e,?_,.inl ?_⟩
  ·show Ak 2 _ (.tup [.int p.1.1,.int p.1.2]) _ _=_;dsimp[i8,bools,j7<|show([_,_]:ae).length=2 from rfl]
  ·have c1:=A_ (τ:=[.ref L,.ref n,.int x,.ref q,.int p.1.1,.int p.1.2,.int<|p.2+1]) (u:=p.1.1) (x:=x) (m:=p.2+1) (k1:=x) (k2:=p.1.2) (q:=q) (T:=f.set q<|.dct<|ed e) (e:=e) (cu:=iB 4) (ck:=qh<|iD (iB 2)<|iD (iB 5) iO)
    (by dsimp[i8,bools]) (by dsimp[i8,bools]) (λT=>by dsimp[i8,bools]) (λT=>by dsimp[i8,bools]) (λT=>by dsimp[i8,bools,qH<|show([_,_]:ae).length<=16777216 by simp]) (xQ t) ()
   have c2:=A_ (τ:=[.ref L,.ref n,.int x,.ref q,.int p.1.1,.int p.1.2,.int<|p.2+1]) (u:=p.1.2) (x:=x) (m:=p.2+1) (k1:=p.1.1) (k2:=x) (q:=q) (T:=f.set q<|.dct<|ed<|Gn.t1 x e p) (e:=Gn.t1 x e p) (cu:=iB 5) (ck:=qh<|iD (iB 4)<|iD (iB 2) iO)
    (by dsimp[i8,bools]) (by dsimp[i8,bools]) (λT=>by dsimp[i8,bools]) (λT=>by dsimp[i8,bools]) (λT=>by dsimp[i8,bools,qH<|show([_,_]:ae).length<=16777216 by simp]) (xQ t) (by have:=Ol x e p;lia)
   rw[gG]at c1 c2;unfold p8;have a:jn (iR ow (iR xS (iB 1)<|qh<|iD (iB 4)<|iD (iB 5) iO)<|eC<|.int 1) (je 6) [.ref L,.ref n,.int x,.ref q,.int p.1.1,.int p.1.2,a6'] (f.set q<|.dct<|ed e)=.nx [.ref L,.ref n,.int x,.ref q,.int p.1.1,.int p.1.2,.int<|p.2+1] (f.set q<|.dct<|ed e):=by
    dsimp[i8,bools,qH<|show([_,_]:ae).length<=16777216 by simp,M]
   refine⟨[.ref L,.ref n,.int x,.ref q,.int p.1.1,.int p.1.2,.int<|p.2+1],f.set q<|.dct<|ed<|Gn.tr x e p,?_,_,_,_,rfl,rfl⟩;show RS.seq (jn _ _ _ _) _=_;rw[a];show RS.seq (vD _ _ _ _ _) _=_;rw[c1];exact c2
 ·rintro τ S1 ⟨a4',a5',a6',rfl,rfl⟩;have l:((ed H).map Nj).length=H.length:=by unfold ed;rw[aN,aN]
  rw[l,g_];exact⟨_,_,_,rfl⟩
end K63
namespace K63
open PySem L2 Am
def Ba{S:iH}:jJ (S++[.dct xs]) S.length=some xs:=rJ<|by rw[bX<|aO _,bW];rfl
def Jv{o:O}{n:Nat}(h:jJ S n=some xs):jJ (S++[o]) n=some xs:=(Kp.refl (b:=λ_=>False)).lay.dct _ _ (λz=>z) h
def NL{H:List Gn.En}:(ed H).map (λkv=>hI kv.1)=H.map λp=>hI [p.1.1,p.1.2]:=by unfold ed;rw[bM];rfl
def KR{H:List Gn.En}(j:(H.map (·.1)).Nodup)(hb:∀k∈H.map (·.1),(0<=k.1/\k.1<=1000000000)/\0<=k.2/\k.2<=1000000000):((ed H).map λkv=>hI kv.1).Nodup:=by
 rw[NL];have f:H.Pairwise λp q=>p.1≠q.1:=eS.1 j;refine eS.2<|f.imp_of_mem λ{p q} hp hq h e=>h ?_;obtain⟨a,b⟩:=hb p.1<|bK.2 ⟨p,hp,rfl⟩;obtain⟨c,d⟩:=hb q.1<|bK.2 ⟨q,hq,rfl⟩;obtain⟨e1,e2⟩:=Th.pairs a b c d e;exact iz e1 e2
def Nk{w:ag}(h:iC S L=some (w.map .int))(hl:w.length<=9)(hw:∀x∈w,1<=x/\x<=1000000000) :
  ∃S',n5 [.ref L] S=.ok (.int (Gn.G w 0 0:Nat)) S'/\mQ S S':=by
 have V:∀{val:Int×Int->Int} {N:Int} {e:List Gn.En},Gn.Up (·∈0::w) val N e->e.length<=100/\∀k∈e.map (·.1),(0<=k.1/\k.1<=1000000000)/\0<=k.2/\k.2<=1000000000:=λ{val N e} u=>by
  refine⟨bC (M4 u)<|Nat.mul_le_mul (show w.length+1<=10 by lia)<|show w.length+1<=10 by lia,λk hk=>?_⟩;have b:∀z∈0::w,0<=z/\z<=1000000000:=λz hz=>by
   rcases a_.1 hz with q|q
   ·subst q;exact⟨dh _,by decide⟩
   ·have:=hw z q;lia
  obtain⟨k1,k2⟩:=u.ks k hk;exact⟨b _ k1,b _ k2⟩
 have lL:=mO h;unfold n5 sF sW;have dp:Cz (qh<|iD (eC<|.int 0)<|iD (eC<|.int 0) iO) (eC<|.int 0) [.ref L,.unb,.unb,.unb,.unb,.unb,.unb] S=.ok (.ref S.length) (S++[.dct<|ed [((0,0),0)]]):=by
  have t:qh (iD (eC<|.int 0)<|iD (eC<|.int 0) iO) [.ref L,.unb,.unb,.unb,.unb,.unb,.unb] S=.ok (.tup [.int 0,.int 0]) S:=by dsimp[i8,bools,qH<|show([_,_]:ae).length<=16777216 by simp]
  unfold Cz;rw[t];rfl
 dsimp[i8,bools,mj,Nat.reduceAdd,Nat.reduceSub,dp];have lm:((w.map A.int).length)=w.length:=aN ..;have k0:mQ S (S++[O.dct<|ed [((0,0),0)]]):=Kp.refl.lay;refine JI (n:=L) (xs:=w.map .int) (S1:=S++[.dct<|ed [((0,0),0)]]) (show tM _ _=_ from k_ (by dsimp[i8,bools])<|lC h)
  (λi τ S1=>∃n H F M a4 a5 a6,τ=[.ref L,.ref n,F,M,a4,a5,a6]/\S.length<=n/\jJ S1 n=some (ed H)/\Gn.Best (·∈0::w) (Gn.G w 0 0) (w.drop i) H/\mQ S S1)
  (λr=>∃S',RS.end (RS.seq r _)=.ok (.int (Gn.G w 0 0:Nat)) S'/\mQ S S') ⟨_,_,_,_,_,_,_,rfl,aO _,Ba,Gn.hd0 (aM ..) w,k0⟩ ?_ ?_ ?_
 ·rintro i τ S1 ⟨n,H,F,M,a4,a5,a6,rfl,hn,hd,d,k⟩;exact k.lst _ _ (λz=>z) h
 ·rintro i X τ S1 hX ⟨n,H,F,M,a4,a5,a6,rfl,hn,hd,d,k⟩;rw[aY]at hX;obtain⟨x,hx,rfl⟩:=bu.1 hX;obtain⟨hi,ex⟩:=aL.1 hx;have dr:w.drop i=x::w.drop (i+1):=by rw[bO hi,ex]
  rw[dr]at d;have mx:x∈0::w:=aK _<|bz hx;have U:=Gn.Po d mx;have W:Gn.Up (·∈0::w) (Gn.vl<|w.drop<|i+1) (Gn.G w 0 0) H:=⟨d.up.nd,d.up.ks,λk m e=>by
   have:=d.up.le k m e;have:=Gn.L0 x (w.drop<|i+1) k.1 k.2;unfold Gn.vl at *
   lia⟩
  have part:∀j,((H.take j).foldl (Gn.tr x) H).length<900:=λj=>by
   have u:=(Gn.Ai (P:=H.take j) mx W λp hp=>d.up.ent<|gr hp).1;have:=(V u).1
   lia
  have C:H≠[]:=λz=>by
   obtain⟨k,m,e,_⟩:=d.at_;rw[z]at e;cases e
  have ne:ed H≠[]:=λz=>C<|ff.1 z;have cp:AB (.ref n) S1=.ok (.ref S1.length) (S1++[.dct<|ed H]):=by
   show opt (jJ S1 n) _=_;rw[hd,iU];exact aS ⟨ne,KR d.up.nd (V d.up).2⟩
  have K:=qt<|jF hd;obtain⟨a4',a5',a6',e⟩:=EC (T:=S1++[.dct<|ed H]) (L:=L) (n:=n) (q:=S1.length) (x:=x) (a4:=a4) (a5:=a5) (a6:=a6) (Jv hd) Ba () d.up.nd part;refine⟨_,S1,rfl,.inl ?_⟩;unfold tV;dsimp[i8,bools,cp,e];have ll:k.len=k.len:=rfl;have lS:=k.len;refine⟨_,_,rfl,S1.length,Gn.nx x H,_,_,_,_,_,rfl,lS,?_,U,?_⟩
  ·exact xQ (by rw[bH,aV];exact bE _)
  ·exact(k.lay.F0<|.inr hn).F0 (.inr lS)
 ·rintro τ S1 ⟨n,H,F,M,a4,a5,a6,rfl,hn,hd,d,k⟩;rw[lm,gh]at d;have K:=qt<|jF hd;obtain⟨f,B⟩:∃f,f=S1.set n (O.dcf<|ed H):=⟨_,rfl⟩;have n0:ny f n=some (ed H):=by
   unfold ny;rw[B,bG K]
  have kT:mQ S f:=by rw[B];exact k.F0 (.inr hn)
  have Y:=(V d.up).1;have cs:=G6 (xs:=(ed H).map Nj) (cap:=[some 1]) (src:=Ju<|iB 1) (t:=jK) (e:=iR xS (iB 1)<|iB 0) (τ:=[.ref L,.ref n,F,M,a4,a5,a6]) (S:=S1) (S1:=f) (by
    show MW (.ref n) S1=_;show opt (jJ S1 n) _=_;rw[hd,iU,<- B]) (λ_=>true) (λx=>match x with
     | .tup ks=>match A.ints ks with
      | some ns=>(j3 (ed H) ns).getD .unb
      | none=>.unb
     | _=>.unb) (λ_ _=>rfl) (λx hx _=>by
      obtain⟨kv,Z,rfl⟩:=bK.1 hx;obtain⟨p,hp,rfl⟩:=bK.1 Z;have g:j3 (ed H) [p.1.1,p.1.2]=some (.int p.2):=by
       rw[qd,Gn.yS d.up.nd (m:=p.2) hp];rfl
      have ix:xS (.ref n) (.tup [.int p.1.1,.int p.1.2]) f=.ok (.int p.2) f:=by
       show opt (ny _ n) _=_;rw[n0,iU];show opt (j3 (ed H) [p.1.1,p.1.2]) _=_;rw[g,iU]
      show iR xS (iB 1) (iB 0) (.tup [.int p.1.1,.int p.1.2]::_) f=R.ok ((j3 (ed H) [p.1.1,p.1.2]).getD .unb) f;rw[g];dsimp[i8,bools,ix];rfl)<|by unfold ed;rw[aN,aN];lia
  have J:((((ed H).map Nj).filter λ_=>true).map λx=>match x with
     | .tup ks=>match A.ints ks with
      | some ns=>(j3 (ed H) ns).getD .unb
      | none=>.unb
     | _=>.unb)=(H.map (·.2)).map A.int:=by
   rw[cR.2 λ_ _=>rfl];unfold ed;rw[bM,bM,bM];refine fm λp hp=>?_;have g:j3 (ed H) [p.1.1,p.1.2]=some (.int p.2):=by
    rw[qd,Gn.yS d.up.nd (m:=p.2) hp];rfl
   show(j3 (ed H) [p.1.1,p.1.2]).getD .unb=_;rw[g];rfl
  rw[J]at cs;have C:H.map (·.2)≠[]:=λz=>by
   obtain⟨k,m,e,_⟩:=d.at_;rw[ff.1 z]at e;cases e
  obtain⟨m,em,m1,m2⟩:=yE (S:=f++[O.lst<|(H.map (·.2)).map .int]) (n:=f.length) (ns:=H.map (·.2)) iW C;have mG:m=Gn.G w 0 0:=Gn.top d m1 m2;rw[mG]at em;refine⟨f++[O.lst<|(H.map (·.2)).map .int],?_,kT.lay⟩;dsimp[i8,bools,cs,em]
end K63
namespace K63
open PySem L2 Am
def NX{xs:ae}{j:Nat}:yj xs none (some (j:Int))=xs.take j:=by
 unfold yj;rw[HT.Kf,HT.EO,c6,Nat.sub_zero];by_cases h:j<=xs.length
 ·rw[Nat.min_eq_left h]
 ·rw[Nat.min_eq_right (),eF (),eF ()]
def FH{S:iH}{n:Nat}{xs:ae}{i:Int}(h:iC S n=some xs)(j:Nat)(e:i=(j:Int)):OP (.ref n) none (some i) S=.ok (.ref S.length) (S++[.lst<|xs.take j]):=by
 subst e;show opt (iC S n) _=_;rw[h,iU,NX]
def Gh{n:Nat}{ns:ag}(h:iC S n=some (ns.map .int)):Eg (.ref n) S=.ok (.int ns.sum) S:=by
 show opt (iC S n) _=_;rw[h,iU,ints_map,iU]
def RI(T:List<|ag):((T.map λr=>(r.length:Int)).take 1).sum=((T.getD 0 []).length:Int):=by
 cases T with
 | nil=>rfl
 | cons r T=>show(r.length:Int)+0=_;exact Int.add_zero _
def sum2(T:List<|ag):((T.map λr=>(r.length:Int)).take 2).sum=(((T.getD 0 []).length+(T.getD 1 []).length:Nat):Int):=by
 cases T with
 | nil=>rfl
 | cons r T=>
  cases T with
  | nil=>show(r.length:Int)+0=((r.length+0:Nat):Int);lia
  | cons u T=>show(r.length:Int)+((u.length:Int)+0)=((r.length+u.length:Nat):Int);lia
def Lr{a b:Int}(h:a=b):uv true (.int a) (.int b) S=.ok (.bl false) S:=by
 subst h;have:v_ S 12 (.int a) (.int a)=some true:=by show some (a == a)=_;rw[cD]
 rw[xh this];rfl
def NZ{a b:Int}(h:a=b):uv false (.int a) (.int b) S=.ok (.bl true) S:=by
 subst h;have:v_ S 12 (.int a) (.int a)=some true:=by show some (a == a)=_;rw[cD]
 rw[zX this]
def ER{w:ag}{T:List<|ag}(hL:iC S L=some (w.map .int))(hM:iC S M=some ((T.map λr=>(r.length:Int)).map .int))(hl:w.length<=9)(hw:∀x∈w,1<=x/\x<=1000000000)(hT:w.foldl Tb.put []=T)(tl:T.length<=100) :
  ∃S',jt [.ref L,.ref M] S=.ok (.bl true) S'/\mQ S S':=by
 obtain⟨z1,Y,W⟩:=Gn.main (M:=1000000001) (λx hx=>by have:=hw x hx;lia) hT;have k1:mQ S (S++[O.lst<|((T.map λr=>(r.length:Int)).map A.int).take 1]):=Kp.refl.lay;have B:=FH (i:=1) hM 1 rfl;have C:Eg (.ref S.length) (S++[O.lst<|((T.map λr=>(r.length:Int)).map A.int).take 1])=.ok (.int ((T.getD 0 []).length:Int)) (S++[O.lst<|((T.map λr=>(r.length:Int)).map A.int).take 1]):=by
  rw[<- RI];exact Gh<|by rw[map_take];exact iW
 obtain⟨S1,k⟩:∃S1,S1=S++[O.lst<|((T.map λr=>(r.length:Int)).map A.int).take 1]:=⟨_,rfl⟩;rw[<- k]at k1 B C;obtain⟨m1,S2,e2,k2,K,U⟩:=EV (k1.lst _ _ (λz=>z) hL) () false;have V:((T.getD 0 []).length:Int)=m1:=by
  rw[Gn.best (r:=Gn.le) (a0:=0) (λx hx=>Gn.le_iff.2 (by have:=hw x hx;lia)) K U,z1]
 have d:=k1.trans k2;obtain⟨m2,S3,Z,k3,a3,N⟩:=EV (d.lst _ _ (λz=>z) hL) () true;have P:(T.length:Int)=m2:=by
  rw[Gn.best (r:=Gn.gt) (a0:=1000000001) (λx hx=>Gn.uA.2 (by have:=hw x hx;lia)) a3 N,Y]
 have f:=d.trans k3;have m:=d.lst _ _ (λz=>z) hM;have g:=f.lst _ _ (λz=>z) hM;have G:=FH (i:=2) g 2 rfl;have F:Eg (.ref S3.length) (S3++[O.lst<|((T.map λr=>(r.length:Int)).map A.int).take 2])=.ok (.int (((T.getD 0 []).length+(T.getD 1 []).length:Nat):Int)) (S3++[O.lst<|((T.map λr=>(r.length:Int)).map A.int).take 2]):=by
  rw[<- sum2];exact Gh<|by rw[map_take];exact iW
 have j:mQ S (S3++[O.lst<|((T.map λr=>(r.length:Int)).map A.int).take 2]):=f.lay;obtain⟨S4,t⟩:∃S4,S4=S3++[O.lst<|((T.map λr=>(r.length:Int)).map A.int).take 2]:=⟨_,rfl⟩;rw[<- t]at j G F;obtain⟨S5,e5,J⟩:=Nk (j.lst _ _ (λz=>z) hL) hl hw;rw[W]at e5;refine⟨S5,?_,j.trans J⟩;unfold jt kh ko;dsimp[i8,bools,mj,Nat.reduceAdd,Nat.reduceSub,B,C,e2,Lr V,m,aN,Z,Lr P,G,F,e5,NZ rfl]
def yI{S:iH}{n:Nat}{T:List<|ag}(h:Tab S n rs T)(j:T.length<=1000):j6 [.ref n] S=.ok (.ref S.length) (S++[.lst<|(T.map λr=>(r.length:Int)).map .int]):=by
 have e:=sH (cap:=[]) (τ:=[.ref n]) (src:=jW<|iB 0) h (k_ (by dsimp[i8,bools]) h.top) ();unfold j6 rR rQ;dsimp[i8,bools,mj,Nat.reduceAdd,Nat.reduceSub,e]
end K63
namespace K63
open PySem L2 Am
def N2(ns:ag)(hl:ns.length<=63):∃S',vV [.frz<|ns.map .int] []=.ok (.bl true) S':=by
 generalize([]:iH)=S;unfold vV Ir GA;dsimp[i8,bools,mj,Nat.reduceAdd,Nat.reduceSub];generalize hM:(if (if (5:Int)<(ns.length:Int)then(5:Int)else(ns.length:Int))>2 then(if (5:Int)<(ns.length:Int)then(5:Int)else(ns.length:Int))else 2)=M;have M0:2<=M:=by rw[<- hM];split<;>lia
 have M1:M<=5:=by rw[<- hM];split<;>split<;>lia
 refine rG (lo:=0) (hi:=M) (S1:=S) (show BB _ _=_ from pF (by dsimp[i8,bools,aN,hM])<|mU () ())
  (λi τ S1=>∃F J G V d,τ=[.frz<|ns.map .int,F,J,G,V,d])
  (λr=>∃S',RS.end (RS.seq r _)=.ok (.bl true) S') ⟨_,_,_,_,_,rfl⟩ ?_ ?_
 ·rintro i τ S1 hi ⟨F,J,G,V,d,rfl⟩;left;obtain⟨S2,e2,hb2,k2⟩:=La (S:=S1) (ns:=ns) (k:=0+(i:Int)) () ();obtain⟨w,L,S3,e3,g3,hx3,hx,hb3,k3,l3⟩:=Ar (most:=9) hb2 ⋯ ⋯;have w9:w.length<=9:=()
  have cp:(f1 pB) [.ref L] S3=.ok (.ref S3.length) (S3++[O.lst<|w.map .int]):=by dsimp[i8,bools,g3]
  have k4:mQ S3 (S3++[O.lst<|w.map .int]):=Kp.refl.lay;obtain⟨S4,P⟩:∃S4,S4=S3++[O.lst<|w.map .int]:=⟨_,rfl⟩;rw[<- P]at cp k4;have g4:=k4.lst _ _ (λz=>z) g3;obtain⟨rs,qs,n,m,S5,e5,hP,Z,k5,_,_,_⟩:=HY (S:=S4) (L:=S3.length) (xs:=w) (by rw[P];exact iW) ();have g5:=k5.lst _ _ (λz=>z) g4;obtain⟨pr,er⟩:=Ks (xs:=w) () hx;obtain⟨p1,p2,p3,p4⟩:=pr.small;have s1:=yI hP ();have kA:mQ S5 (S5++[O.lst<|((Tb.tabs w w.length).1.map λr=>(r.length:Int)).map .int]):=Kp.refl.lay;obtain⟨f,C⟩:∃f,f=S5++[O.lst<|((Tb.tabs w w.length).1.map λr=>(r.length:Int)).map .int]:=⟨_,rfl⟩;rw[<- C]at s1 kA;have s2:=yI (Z.wR kA) ();have kB:mQ f (f++[O.lst<|((Tb.tabs w w.length).2.map λr=>(r.length:Int)).map .int]):=Kp.refl.lay;obtain⟨g,N⟩:∃g,g=f++[O.lst<|((Tb.tabs w w.length).2.map λr=>(r.length:Int)).map .int]:=⟨_,rfl⟩;rw[<- N]at s2 kB;have same:((Tb.tabs w w.length).1.map λr=>(r.length:Int))=(Tb.tabs w w.length).2.map λr=>(r.length:Int):=by
   have:=cA (List.map λn:Nat=>(n:Int))<|Tb.jH w w.length;rw[bM,bM]at this;exact this.symm
  have q1:uv true (.ref S5.length) (.ref f.length) g=.ok (.bl false) g:=by
   have h1:iC g S5.length=some (((Tb.tabs w w.length).1.map λr=>(r.length:Int)).map .int):=kB.lst _ _ (λz=>z) (by rw[C];exact iW);have h2:iC g f.length=some (((Tb.tabs w w.length).2.map λr=>(r.length:Int)).map .int):=by rw[N];exact iW
   rw[xh<|zb h1 h2,bh same];rfl
  have kC:=kA.trans kB;obtain⟨B,W,e8,g8,k8,_⟩:=Ax (hP.wR kC) (Z.wR kC) pr;rw[er]at g8;have kD:=kC.trans k8;have g9:=kD.lst _ _ (λz=>z) g5;have q2:=xh<|zb g8 g9;rw[bh rfl,fE]at q2;have hQ8:=Z.wR kD;have gl:kX (.ref L) W=.ok (.int w.length) W:=by dsimp[i8,bools,g9,aN]
  unfold CK;dsimp[i8,bools,e2,e3,cp,e5,j7<|show([_,_]:ae).length=2 from rfl,s1,s2,q1,e8,q2];refine rG (lo:=0) (hi:=w.length+1) (S1:=W) (show BD _ _=_ from pF (by dsimp[i8,bools,gl])<|mU () ())
   (λj τ T=>∃d,τ=[.frz<|ns.map .int,.int<|0+(i:Int),.ref L,.ref n,.ref m,d]/\mQ W T)
   (λr=>∃K S',r=.nx K S'/\∃F J G V d,K=[.frz<|ns.map .int,F,J,G,V,d]) ⟨_,rfl,Kp.refl⟩ ?_ ?_
  ·rintro j τ T hj ⟨d,rfl,Y⟩;left;have t:j<=w.length:=()
   have gT:=Y.lst _ _ (λz=>z) g9;have f1:=FH (i:=0+(j:Int)) gT j ();have k1:mQ T (T++[O.lst<|(w.map A.int).take j]):=Kp.refl.lay;obtain⟨T1,U⟩:∃T1,T1=T++[O.lst<|(w.map A.int).take j]:=⟨_,rfl⟩;rw[<- U]at f1 k1;have h1:iC T1 T.length=some ((w.take j).map .int):=by rw[U,map_take];exact iW
   obtain⟨M2,T2,f2,h2,k2⟩:=NF (m:=0+(j:Int)) ((hQ8.wR Y).wR k1) () (λi=>by have:=p4 i;lia);rw[show(0:Int)+(j:Int)=(j:Int)by lia,GN t]at h2;have tl:((w.take j).foldl Tb.put []).length<=100:=by
    have:=(Tb.uT w j).1;rw[Mo.mz w j t]at this
    lia
   obtain⟨T3,f3,k3⟩:=ER (k2.lst _ _ (λz=>z) h1) h2 (by rw[b_];lia) (λx hx'=>hx x<|gr hx') rfl tl;unfold Bu;dsimp[i8,bools,f1,f2,f3];exact⟨_,_,rfl,_,rfl,((Y.trans k1).trans k2).trans k3⟩
  ·rintro τ T ⟨d,rfl,Y⟩;exact⟨_,_,rfl,_,_,_,_,_,rfl⟩
 ·rintro τ S1 ⟨F,J,G,V,d,rfl⟩;dsimp[i8,bools];exact⟨_,rfl⟩
end K63
namespace K63
open PySem L2 Am
def all_mk{l:PySem.W.OpenLaw}{w:af}{K:aA}{h:au}{mg:Str->bi}{fa:aq}(X:K.In h)(G:h.Ns mainGlobals mg)(hfa:mg "law" = some (.ref fa))
  (a1:Df K "is_whole" qu)
  (a2:Df K "is_letter" p7)
  (a3:Df K "is_letters" oh)
  (a4:Df K "is_table_row" mD)
  (a5:Df K "fits_under" oz)
  (a6:Df K "is_table" qD)
  (a7:Df K "first_greater" lU)
  (a8:Df K "put_into_rows" lR)
  (a9:Df K "copied" ux)
  (a10:Df K "tables" u7)
  (a11:Df K "shape" xK)
  (a12:Df K "is_pair_of_tables" kq)
  (a13:Df K "last_smaller" mX)
  (a14:Df K "take_out" qF)
  (a15:Df K "row_back" qP)
  (a16:Df K "_law_bag" sP)
  (a17:Df K "_law_digit" pC)
  (a18:Df K "_law_letters" nP)
  (a19:Df K "_law_longest" nN)
  (a20:Df K "_law_two" sR)
  (a21:Df K "_law_cut" sQ)
  (a22:Df K "_law_lengths_right" kc)
  (a23:Df K "law" HK)
  (UZ:PySem.W.nsIn K mainGlobals "isinstance" = some none)
  (U0:PySem.W.nsIn K mainGlobals "bool" = some none)
  (U1:PySem.W.nsIn K mainGlobals "int" = some none)
  (U3:PySem.W.nsIn K mainGlobals "all" = some none)
  (U4:PySem.W.nsIn K mainGlobals "list" = some none)
  (U5:PySem.W.nsIn K mainGlobals "sorted" = some none)
  (U6:PySem.W.nsIn K mainGlobals "len" = some none)
  (U7:PySem.W.nsIn K mainGlobals "zip" = some none)
  (U8:PySem.W.nsIn K mainGlobals "range" = some none)
  (U9:PySem.W.nsIn K mainGlobals "enumerate" = some none)
  (U_:PySem.W.nsIn K mainGlobals "max" = some none)
  (Va:PySem.W.nsIn K mainGlobals "dict" = some none)
  (Vb:PySem.W.nsIn K mainGlobals "sum" = some none)
  (Vc:PySem.W.nsIn K mainGlobals "min" = some none)
  {UX:Tok} (Vd:PySem.W.nsIn K mainGlobals "GREATEST_LETTER" = some (some<|.int 1000000000 UX))
  {UY:Tok} (Ve:PySem.W.nsIn K mainGlobals "MOST_LETTERS" = some (some<|.int 40 UY))
  : ∃fd:FuncData,(∀(s:aE) (v:aa),BindsTo s fd ⟨[v],[]⟩ [("_law_script",v)])/\∀base:au,K.In base->base.Ns mainGlobals mg->FnOk l.prog w K mg base qf 8 fa fd ["_law_script"] (qU K 1 vV):=by
 obtain⟨f,fd,a,F⟩:=a23;have e:=hfa.symm.trans (gY X G a)
 cases e
 have m:=bT X G UZ;have Uw:=bT X G U0;have Ux:=bT X G U1;have z:=bT X G U3;have j:=bT X G U4;have C:=bT X G U5;have d:=bT X G U6;have O:=bT X G U7;have g:=bT X G U8;have J:=bT X G U9;have k:=bT X G U_;have V:=bT X G Va;have U:=bT X G Vb;have UP:=bT X G Vc;have L:∃t,mg "GREATEST_LETTER" = some (.int 1000000000 t):=⟨UX,gY X G Vd⟩;have N:∃t,mg "MOST_LETTERS" = some (.int 40 t):=⟨UY,gY X G Ve⟩;refine⟨fd,λs v=>(by obtain⟨_,_,_,_,_,_,_,_,_,rfl,_,_⟩:=F.ex;exact .of_eq rfl),λbase _ _=>?_⟩;have E:En l.prog w K mg base:=⟨h,X,G⟩;have Uz:=a1.kA E (λF=>yO F m Uw Ux)<|Jk λ_ _ _ _ _ _ _=>rfl;have UA:=a2.kA E (λF=>xM F L Uz)<|Jk λ_ _ _ _ _ _ _=>rfl;have UB:=a3.kA E (λF=>vN F z m j UA)<|Jk λ_ _ _ _ _ _ _=>rfl;have Y:=a4.kA E (λF=>t8 F C d UB)<|Jk λ_ _ _ _ _ _ _=>rfl;have P:=a5.kA E (λF=>vI F z O d)<|AQ λ_ _ _ _ _ _ _ _=>rfl;have Ut:=a6.kA E (λF=>yV F z m j g d Y P)<|Jk λ_ _ _ _ _ _ _=>rfl;have UG:=a7.kA E (λF=>sI F d)<|AQ λ_ _ _ _ _ _ _ _=>rfl;have UH:=a8.kA E (λF=>r8 F d UG)<|AQ λ_ _ _ _ _ _ _ _=>rfl;have UL:=a9.kA E (λF=>El F j)<|Jk λ_ _ _ _ _ _ _=>rfl;have US:=a10.kA E (λF=>DR F J d UH)<|Jk λ_ _ _ _ _ _ _=>rfl;have B:=a11.kA E (λF=>HE F d)<|Jk λ_ _ _ _ _ _ _=>rfl;have UK:=a12.kA E (λF=>pL F C j g d N B Ut)<|AQ λ_ _ _ _ _ _ _ _=>rfl;have UJ:=a13.kA E (λF=>tW F d)<|AQ λ_ _ _ _ _ _ _ _=>rfl;have M:=a14.kA E (λF=>yJ F g UJ)<|AQ λ_ _ _ _ _ _ _ _=>rfl;have UT:=a15.kA E (λF=>yb F J g d UK UL M)<|AQ λ_ _ _ _ _ _ _ _=>rfl;have UR:=a16.kA E (λF=>zW F d)<|AQ λ_ _ _ _ _ _ _ _=>rfl;have Us:=a17.kA E (λF=>wK F)<|AQ λ_ _ _ _ _ _ _ _=>rfl;have Z:=a18.kA E (λF=>uY F g Us)<|AQ λ_ _ _ _ _ _ _ _=>rfl;have Uv:=a19.kA E (λF=>vj F g d k)<|AQ λ_ _ _ _ _ _ _ _=>rfl;have UO:=a20.kA E (λF=>Av F V k)<|Jk λ_ _ _ _ _ _ _=>rfl;have UW:=a21.kA E (λF=>zR F d)<|AQ λ_ _ _ _ _ _ _ _=>rfl;have UU:=a22.kA E (λF=>pP F d U Uv UO)<|AQ λ_ _ _ _ _ _ _ _=>rfl;exact MZ F g k UP d j Z UR US UT B UU UW
def walk{l:PySem.W.OpenLaw}{q:ah}{M:(Str->bi)->au->Prop}{L:af->au->Prop}{d:DefRec}{K:Params->aA}(hn:l.most=some 63)(J:d.params.defaults=[])
  (U:∀(w:af) (h:au),L w h->(K w.params).In h)
  (F:∀(w:af) (mg:Str->bi) (fa:aq) (h:au),(K w.params).In h->h.Ns mainGlobals mg->mg d.name=some (.ref fa) ->
   ∃fd:FuncData,(∀(s:aE) (u:aa),BindsTo s fd ⟨[u],[]⟩ [("_law_script",u)])/\∀base:au,(K w.params).In base->base.Ns mainGlobals mg->FnOk l.prog w (K w.params) mg base qf 8 fa fd ["_law_script"] (qU (K w.params) 1 vV)) :
  PySem.W.WalkO q loose M L l.row.toRowW d [] (λf vs=>PySem.call f vs):=
 L2.Li (n:=63) (k:=8) (x := "_law_script") (CX:=λ_=>qf) (sp:=λw=>qU (K w.params) 1 vV) hn ⋯ J ⟨rfl,by decide,by decide,rfl⟩ U F (λ_ H a t m j g=>Es j g<|N2 t m) λ_ _ _ _ _ z=>z
end K63
open PySem PySem.W PyProof.Rows
namespace PySem.W.Fast
local macro_rules|`(command|universe $x*)=>do return Lean.mkNullNode (←x.mapM λx=>`(command|def $x:ident:=Nat))
universe tw10038013992953592313 tw12755100824205727052 tw8239352942243695284 tw3869710549137078224 tw8889474075459006809 tw529979511180738199 tw8674666600736237291 tw4731803847699761699 tw11735585232174078626 tw10958219363436885920 tw7109355348030173833 tw4620940107248612029 tw454532900152276666 tw10675029505570601283 tw10084117496135506387 tw9379309084975317606 tw203614262876005559 tw4051026918930864182 tw2769313138406930364 tw7600763155048971921 tw5797379034518209476 tw577158865151234758 tw5854011101315943681 tw2373480058226416545 tw12323214074798040874 tw9677220879032112399 tw6712056114018536181 tw7099327815847398286 tw7982139267536172868 tw2504200829416317420 tw3332239583940432874 tw3230673856827389926 tw18253244991565176363 tw10198338259756386457 tw4029850909360546292 tw12066276856570988829 tw894357720957454805 tw9579985431041053944 tw1719122250799601788 tw17603515715293051124 tw7553253754555503514 tw8786820826248590286 tw14711185882400836451 tw9346068944106534613 tw5841252089099004344 tw13357252075729495628 tw3172794110000703154 tw13668786988790118528 tw13555526899409965408 tw8211449083369872849 tw14016443658095069293 tw3913694599895977841 tw16655329637132629019 tw11445091957630537289 tw17710561103646776221 tw12215748451840507584 tw13301042287665448348 tw8668998325580308717 tw8678376512897336521 tw7591487798497668356 tw653967433400244474 tw14395339642017889399 tw13992555127844492639 tw3881149923063488175 tw6941593495143652595 tw9594015999730224077 tw16379916520248058304 tw2151474256194575335 tw10430784387613975963 tw6389050102741103141 tw2724921182669104916 tw5835962979453421786 tw4554221517606634922 tw2871273296125708670 tw5303406722752141584 tw10492020781567410319 tw9385094137437942442 tw5014676545314871295 tw13509053557794212553 tw3564947670663606925 tw13353020840517717612 tw15401956868075176580 tw16194030376779333915 tw1610068327509726409 tw12918542043553658385 tw8798442965142343736 tw11132494283550703927 tw6665947022274265862 tw4359635845298118316 tw3555455532886765391 tw16249195014492019479 tw15873742970793313583 tw15966069543275748673 tw10564869226550504844 tw9317255725404657942 tw2888611237366610750 tw11983041682467932818 tw514061217592086841 tw112482922350493680 tw7761833107771522831 tw8889850928434347782 tw13788454033585866885 tw15716669477495142881 tw9119513254964643228 tw17344549678164853875 tw13071897626940952244 tw6292772455801232354 tw5734889664195514768 tw11361976909301791869 tw2345228581149494275 tw6539500730678418679 tw1392226219752771738 tw5700246827482384377 tw5655243180584459760 tw11373463998368221715 tw15180820727560293672 tw1860173869935335307 tw4788392052179103780 tw1354390506670035777 tw13717120295437551993 tw2095475224121940988 tw4690605794964212415 tw17866010871800179295 tw14994159399460136747 tw16839235986528899461 tw16889295531680037526 tw2554765226970556194 tw3627972001129398903 tw14070390964077078315 tw16011187283125915186 tw16257873259314346330 tw11544968222919490031 tw17127228353226912714 tw2749476463001238669 tw6321306940468769985 tw11546687673573095767 tw3319079416222823660 tw16827115832108836919 tw1694494465812255472 tw8333991190302160460
end PySem.W.Fast
set_option maxRecDepth 100000 in
set_option maxHeartbeats 0 in
theorem PySem.Challenge.cw_undercells_k63_whole_longest_picks_holds : PySem.Challenge.rw_undercells_k63_whole_longest_picks.Holds := by
 w_on;o_law;k_head;(case hw=>w_witness2)
 k_fill
 refine K63.walk (l:=PySem.Challenge.rw_undercells_k63_whole_longest_picks) rfl rfl (fun w h Y=>PySem.W.kIn_of Y) ?F
 case F=>
  intro w mg fa h KX G hmg;refine' K63.all_mk KX G hmg (.of ?_ ?_ ?_ ?_) (.of ?_ ?_ ?_ ?_) (.of ?_ ?_ ?_ ?_) (.of ?_ ?_ ?_ ?_) (.of ?_ ?_ ?_ ?_) (.of ?_ ?_ ?_ ?_) (.of ?_ ?_ ?_ ?_) (.of ?_ ?_ ?_ ?_) (.of ?_ ?_ ?_ ?_) (.of ?_ ?_ ?_ ?_) (.of ?_ ?_ ?_ ?_) (.of ?_ ?_ ?_ ?_) (.of ?_ ?_ ?_ ?_) (.of ?_ ?_ ?_ ?_) (.of ?_ ?_ ?_ ?_) (.of ?_ ?_ ?_ ?_) (.of ?_ ?_ ?_ ?_) (.of ?_ ?_ ?_ ?_) (.of ?_ ?_ ?_ ?_) (.of ?_ ?_ ?_ ?_) (.of ?_ ?_ ?_ ?_) (.of ?_ ?_ ?_ ?_) (.of ?_ ?_ ?_ ?_) ?_ ?_ ?_ ?_ ?_ ?_ ?_ ?_ ?_ ?_ ?_ ?_ ?_ ?_ ?_ ?_
  any_goals first|k_is|kernel_rfl
