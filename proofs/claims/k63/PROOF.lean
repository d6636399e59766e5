import PyProof.Rows.All
import Wide.All
import OpenK.AllK
import Wide.FinOn
import Lean
import PyProof.EqAt
import PyProof.EqKinds
import PyProof.TupleCall
import PySem.Challenge.RW_undercells_k63_whole_longest_picks
set_option autoImplicit true
set_option relaxedAutoImplicit true
set_option Elab.async false
set_option linter.all false
set_option maxRecDepth 100000
set_option compiler.extract_closed false
set_option maxHeartbeats 4000000
local macro_rules|`($a<|>$b)=>`(autoParam $a $b)
local macro_rules|`(command|abbrev $n:declId $s:optDeclSig $v:declVal)=>`(command|noncomputable def $n:declId $s:optDeclSig $v:declVal)|`(command|meta abbrev $n:declId $s:optDeclSig $v:declVal)=>`(command|@[reducible]noncomputable def $n:declId $s:optDeclSig $v:declVal)
local macro_rules|`(∅)=>`(by decide +kernel)
local macro_rules|`(⋯)=>`(by decide)
local macro_rules|`(tactic|dsimp[$l,*])=>`(tactic|simp only[$l,*])|`(tactic|dsimp[$l,*]$o:location)=>`(tactic|simp only[$l,*]$o:location)
local macro_rules(kind:=Lean.Parser.Term.structInst)|`({})=>`({cls:=.type "list",data:=.seq ([]:List PySem.Value).toArray})
set_option hygiene false
local macro_rules|`(tactic|room)=>`(tactic|intro X hP hw hK hc i pins s σ H E I hf st hg)
local macro_rules|`(tactic|z_go)=>`(tactic|obtain⟨ρ,S,τ,R,r,h⟩:=h9)
local macro_rules|`(tactic|x_go)=>`(tactic|obtain⟨ρ,S,a,b,R,va,vb,h⟩:=h9)
local macro_rules|`(tactic|w_up)=>`(tactic|intro pins s σ H Q I h)
local macro_rules|`(tactic|fin2)=>`(tactic|obtain⟨f0,f1,f2,f3,f4,f5⟩:=hf it (by simp))
local macro_rules|`(tactic|k_ne)=>`(tactic|have hfree:∀y∈scope.names,y.2=.free->∃c,X.env.cells.lookup y.1=some c:=λy hy e=>I.ok.has _ (S.fr y hy e))
local macro_rules|`(tactic|kt_k)=>`(tactic|intro pins s σ H xs us Q I r h)
local macro_rules|`(tactic|kd_p)=>`(tactic|refine I3.yO (ch:=fp) I6.os ⟨λb o e n hb hx=>?_,λb o e n hb hx=>?_,λb o e n hx=>?_,λb o e hx=>?_,u6.tups,u6.frzs,u6.tbls⟩ ?_ I6.bare ?_)
local macro_rules|`(tactic|gn_on)=>`(tactic|obtain⟨xs,hn,h⟩:=iF h)
local macro_rules|`(tactic|gp_on)=>`(tactic|refine⟨ρ3,S3,τ3,x,τ4,S4,R4,r3.ext e4,v4,hg4,λρ5 H5 σ5 e5 R5 r5=>⟨ρ5,S4,τ4,b,S5,R5,r5,ht5,λρ6 H6 e6 R6=>?_⟩⟩)
local macro_rules|`(tactic|kj_on)=>`(tactic|refine⟨m',hm,i+1,σ8,H10,I10.kg,T.keep _ _ _ st7 λb hb o e=>(I10.pin (b,o) (aT _ (aT _ (jd hb e)))).1,λb hb=>?_,w10⟩)
local macro_rules|`(tactic|kcf_m)=>`(tactic|obtain⟨w,rfl,ρ,S,x,R,hv,h⟩:=Ly h0)
local macro_rules|`(tactic|kcj_m)=>`(tactic|intro pins s σ H x y v u Q I rx ry h)
local macro_rules|`(tactic|kpc_g)=>`(tactic|refine aJ (ju h6 λ_ s7 ⟨x,H7,I7,r7,y7,st7,fr7⟩=>?_))
local macro_rules|`(tactic|kpf_c)=>`(tactic|refine⟨hn b hb,(ok.exf b hb).1,ok.exfs b hb,.inl hb,λx c e=>(ok.exf b hb).2 x c e,λp hp=>nomatch hp⟩)
local macro_rules|`(tactic|ksr_p)=>`(tactic|intro pins s σ H D I h)
local macro_rules|`(tactic|kst_p)=>`(tactic|obtain⟨u,rfl,rx⟩:=vals1 r)
local macro_rules|`(tactic|kln_w)=>`(tactic|refine aJ (rR (hg _ _ _ fp _ s7 σ5 H7 x u _ I7' r7 (step x H7 y7)) λ_ s8 ⟨σ8,H8,I8,q8⟩=>?_))
local macro_rules|`(tactic|kl_no)=>`(tactic|obtain⟨ρ,S,τ,R,r,h⟩:=h)
local macro_rules|`(tactic|mg_lt)=>`(tactic|refine q x τ1 S1 b S2 hx h1 h2 (λhb=>?_) λhb=>?_)
local macro_rules|`(tactic|cb_eq)=>`(tactic|exact I1.uN (aP _) (I1.hok.fresh (aP _)))
local macro_rules|`(tactic|o_rec)=>`(tactic|exact(I10.pin (b,o) (aT _ (aT _ (jd hb e)))).2.1)
local macro_rules|`(tactic|f_are)=>`(tactic|have I7':=I7.pinned (stat fr7) (T.obj _ _ st7))
set_option hygiene true
local macro_rules|`(())=>`(by lia)
@[reducible]def ag:=List Int
@[reducible]def am:=List Nat
@[reducible]def ar:=List PySem.Str
@[reducible]def ba:=List PySem.Value
@[reducible]def bd:=List PySem.Addr
@[reducible]def bi:=Option PySem.Value
@[reducible]def bj:=Option Int
@[reducible]def bn:=Option Bool
@[reducible]def bo:=Option Nat
@[reducible]def bt:=List<|PySem.Addr×PySem.Obj
def aH:=@List.getElem?_eq_getElem
def aI:=@List.getD_eq_getElem?_getD
def aJ:=@PySem.wpAny_bind
def aK:=@List.getElem?_eq_some_iff
def aL:=@List.length_map
def aM:=@List.mem_cons_self
def aN:=@List.mem_cons_of_mem
def aO:=@PySem.wpAny_pure
def aP:=@Nat.le_refl
def aQ:=@PySem.Heap.get?_push_of_some
def aR:=@if_pos
def aS:=@List.getElem?_append_left
def aT:=@List.mem_append_right
def aU:=@if_neg
def aV:=@Option.some.inj
def aW:=@List.size_toArray
def aX:=@List.getElem?_map
def aY:=@List.length_append
def aZ:=@PySem.Heap.lt_size
def a_:=@List.mem_cons
def bf:=@Bool.false_ne_true
def bg:=@List.append_assoc
def bh:=@Option.map_eq_some_iff
def br:=@List.mem_singleton
def bu:=@decide_eq_true
def bw:=@decide_eq_false
def bx:=@List.mem_of_getElem?
def bz:=@List.length_cons
def bA:=@List.mem_append
def bB:=@Nat.ne_of_lt
def bC:=@List.map_cons
def bD:=@Nat.lt_succ_self
def bE:=@List.getElem?_set_ne
def bF:=@List.getElem?_set_self
def bG:=@List.length_set
def bH:=@Nat.le_trans
def bI:=@PySem.Heap.get?_push_size
def bJ:=@List.append_nil
def bK:=@List.mem_map
def bL:=@List.map_map
def bM:=@Nat.lt_of_lt_of_le
def bN:=@Nat.zero_le
def bO:=@List.nodup_cons
def bP:=@Option.bind_eq_some_iff
def bQ:=@List.flatten_cons
def bR:=@PySem.W.mg_none_of
def bS:=@PySem.wpAny_newObj_type
def bT:=@List.pairwise_cons
def bU:=@List.map_append
def bV:=@List.drop_eq_getElem_cons
def bW:=@Nat.sub_self
def bX:=@PySem.wpAny_standAt
def bY:=@PyProof.Rows.slot_tuple_getitem
def bZ:=@Array.length_toList
def b6:=@List.length_pos_iff
def b7:=@PySem.PassesOwn.never
def b8:=@List.length_take
def b9:=@List.getElem?_append_right
def b_:=@Ne.symm
def cg:=@PySem.F.slot_dict_keyiterator_next
def cj:=@congrArg
def cy:=@PySem.W.kia_one
def cz:=@List.find?_cons
def cA:=@beq_self_eq_true
def cB:=@PySem.F.slot_list_append
def cC:=@PySem.F.type_list_append
def cD:=@Option.bind_some
def cE:=@List.mem_flatten
def cF:=@PySem.mem_of_lookup
def cG:=@PyProof.Rows.callWith_type1
def cH:=@List.nodup_append
def cI:=@List.prefix_refl
def cJ:=@PySem.wpAny_holding
def cK:=@List.replicate_succ
def cL:=@List.filter_eq_self
def cM:=@Nat.not_lt_zero
def cN:=@List.set_append_right
def cO:=@List.getElem_mem
def cP:=@List.perm_middle
def cQ:=@Nat.le_of_lt
def cR:=@Option.isSome_iff_exists
def cS:=@PySem.sizeLine_eq
def cT:=@PySem.wpAny_typeNameOfWhole_keyiter
def cU:=@List.pairwise_append
def cV:=@List.drop_zero
def cW:=@List.pairwise_singleton
def cX:=@beq_eq_false_iff_ne
def cY:=@if_false
def cZ:=@List.drop_of_length_le
def c6:=@Int.le_refl
def c7:=@Bool.and_eq_true
def c8:=@List.lookup_cons
def c9:=@PySem.wpAny_mono
def c_:=@Bool.false_eq_true
def dc:=@List.prefix_append
def dh:=@List.take_append_drop
def di:=@List.getElem?_eq_none_iff
def dm:=@PySem.wpAny_passesOwn
def dw:=@Nat.le_antisymm
def dz:=@List.mem_append_left
def dB:=@PySem.wpAny_truthy_bool
def dD:=@List.map_nil
def dF:=@List.mem_iff_getElem
def dG:=@PySem.wpAny_dictEntries
def dH:=@List.findIdx_getElem
def dI:=@Nat.lt_or_ge
def dJ:=@PySem.wpAny_typeNameOf_keyiter
def dM:=@List.sum_cons
def dN:=@Nat.lt_succ_iff_lt_or_eq
def dO:=@List.length_drop
def dP:=@PySem.wpAny_callSpecial?_slot
def dQ:=@PySem.wpAny_call_entry
def dR:=@Option.getD_some
def dS:=@PySem.Heap.size_push
def dU:=@List.Perm.refl
def dW:=@List.length_eq_zero_iff
def dX:=@Nat.succ_le_succ
def dY:=@List.getElem?_cons_succ
def dZ:=@Int.eq_ofNat_of_zero_le
def d7:=@PySem.W.cellsFrom_some
def d8:=@if_true
def d9:=@List.take_of_length_le
def d_:=@List.not_of_lt_findIdx
def ee:=@Nat.mod_lt
def eg:=@List.length_nil
def eB:=@List.map_const'
def eE:=@List.any_cons
def eF:=@List.perm_append_comm
def eG:=@List.pairwise_map
def eK:=@List.length_dropLast
def eL:=@List.forall_mem_cons
def eN:=@List.getElem_inj
def eO:=@List.pairwise_iff_getElem
def eS:=@List.getLastD_eq_getLast?
def eU:=@List.getLast?_eq_getElem?
def eV:=@PySem.F.args_dict_keyiterator_next_1
def eW:=@List.map_eq_nil_iff
def eX:=@List.replicate_zero
def eY:=@List.map_congr_left
def eZ:=@Nat.lt_irrefl
def e_:=@List.getElem?_take_of_lt
def ff:=@PySem.F.args_tuple_add_2
def fj:=@PySem.wpAny_comprehension_free
def fm:=@PySem.F.entry_dict_keyiterator_next
def fu:=@Bool.not_true
def fy:=@Nat.div_add_mod
def fB:=@List.length_range'
def fC:=@Int.emod_lt_of_pos
def fD:=@decide_eq_true_iff
def fE:=@PySem.F.entry_tuple_add
def fF:=@List.filter_cons_of_neg
def fG:=@List.set_eq_take_append_cons_drop
def fH:=@PySem.F.slot_tuple_add
def fJ:=@List.reverse_cons
def fK:=@decide_eq_true_eq
def fL:=@List.findIdx_le_length
def fM:=@List.getElem?_set
def fN:=@List.take_succ_eq_append_getElem
def fO:=@List.head?_eq_getElem?
def fQ:=@List.length_replicate
def fR:=@PySem.Heap.get?_update_self
def fS:=@Array.getElem?_toList
def fU:=@PySem.F.slot_dict_get
def fV:=@PySem.wpAny_isOneOf_keyiter
def fW:=@List.set_getElem_self
def fX:=@Nat.add_sub_add_right
def fY:=@List.cons_append
def fZ:=@List.filter_cons
def f6:=@Nat.succ_lt_succ
def f7:=@List.drop_length
def f9:=@PySem.Paired.length
def f_:=@PySem.wpAny_field
def gb:=@List.range_eq_range'
def gc:=@List.getLast?_eq_some_getLast
def gf:=@List.mem_of_mem_take
def gg:=@PySem.wpAny_execs_nil
def gh:=@List.nil_append
def gk:=@Int.le_antisymm
def gn:=@Int.emod_nonneg
def gp:=@List.dropLast_concat_getLast
def gq:=@List.filterMap_cons
def gr:=@List.length_reverse
def gu:=@PySem.Heap.SameBut.update
def gv:=@PySem.codeAny_mono
def gw:=@PySem.codeAny_loop
def gx:=@List.set_set
def gy:=@PySem.wpAny_Call_Name_kw
def gz:=@PySem.Heap.IsSliceOf.new
def gA:=@PySem.wpAny_rule
def gB:=@PySem.tupleKind_room_in1
def gC:=@PySem.wpAny_fieldsOf
def gD:=@List.getElem?_drop
def gE:=@Nat.max_le
def gF:=@Int.toNat_natCast
def gG:=@PySem.slot_list_getitem
def gH:=@PySem.wpAny_noted
def gI:=@Nat.lt_succ_of_lt
def gJ:=@List.length_range
def gK:=@of_decide_eq_true
def gM:=@List.foldl_append
def gO:=@List.findIdx_cons
def gP:=@PySem.evalPart_none
def gQ:=@PySem.W.mg_of
def gR:=@List.take_length
def gS:=@List.countP_cons
def gU:=@List.length_tail
def gV:=@List.mem_reverse
def gW:=@Nat.ne_of_gt
def gX:=@Nat.zero_add
def gY:=@beq_iff_eq
def gZ:=@List.of_mem_zip
def g_:=@Bool.or_eq_true
def h_:=@List.filter_map
def ie:=@List.mem_range
def ig:=@Prod.ext
@[reducible]def aa:=PySem.Value
@[reducible]def af:=PySem.World
@[reducible]def ah:=PySem.Program
@[reducible]def aq:=PySem.Addr
@[reducible]def au:=PySem.Heap
@[reducible]def aA:=PySem.W.Frag
@[reducible]def aC:=PySem.Around
@[reducible]def aE:=PySem.Shared
@[reducible]def aF:=PySem.Expr
@[reducible]def aG:=PySem.Stmt
def anI{a b:Prop}(h:a)(k:b):a/\b:=⟨h,k⟩
open Int (ediv_one mul_sub)
open List (all_cons map_id map_set map_take)
open Nat (le_succ not_lt)
open Option (getD_none isSome_map isSome_some map_map map_some)
namespace L2
open PySem PySem.Spec PyProof.Rows
meta abbrev Key:=Sum Int Str
abbrev vL:Key->aa->Bool
 | .inl k,v=>Value.isInt k v
 | .inr x,v=>Value.isStrOf x v
abbrev PD (w:af):Key->Int
 | .inl k=>hashInt k
 | .inr x=>hashStr w x
def jz:∀{k:Key}{v:aa},vL k v=true->(∃i t,k=Sum.inl i/\v=Value.int i t)\/(∃x t,k=Sum.inr x/\v=Value.str x t)
 | .inl i,v,h=>by
  obtain⟨t,e⟩:=Value.isInt_shape (k:=i) (v:=v) h;exact .inl ⟨i,t,rfl,e⟩
 | .inr x,v,h=>by
  obtain⟨t,e⟩:=Value.isStrOf_shape (x:=x) (v:=v) h;exact .inr ⟨x,t,rfl,e⟩
def Dy(i:Int)(t:Tok):vL (.inl i) (.int i t)=true:=by simp[vL,Value.isInt]
def DU(x:Str)(t:Tok):vL (.inr x) (.str x t)=true:=by simp[vL,Value.isStrOf]
def NP(a b:Int):decide ((Sum.inl a:Key)=Sum.inl b)=(a == b):=by
 by_cases e:a=b
 ·subst e;simp
 ·have h:¬(Sum.inl a:Key)=Sum.inl b:=λq=>e<|Sum.inl.inj q;rw[bw h];exact(cX.mpr e).symm
def Mm(a b:Str):decide ((Sum.inr a:Key)=Sum.inr b)=decide (a=b):=by
 by_cases e:a=b
 ·subst e;simp
 ·have h:¬(Sum.inr a:Key)=Sum.inr b:=λq=>e<|Sum.inr.inj q;rw[bw h,bw e]
def NT(a:Int)(b:Str):decide ((Sum.inl a:Key)=Sum.inr b)=false:=bw λq=>nomatch q
def N1(a:Str)(b:Int):decide ((Sum.inr a:Key)=Sum.inl b)=false:=bw λq=>nomatch q
abbrev jB (prog:ah)(w:af):PySem.KeyKind prog w Key where
 is:=vL
 hash:=PD w
 inj:=λv a b d hb=>by
  rcases jz d with⟨i,t,rfl,rfl⟩|⟨x,t,rfl,rfl⟩
  ·rcases jz hb with⟨j,u,rfl,e⟩|⟨y,u,rfl,e⟩
   ·injection e with e1 _;rw[e1]
   ·exact nomatch e
  ·rcases jz hb with⟨j,u,rfl,e⟩|⟨y,u,rfl,e⟩
   ·exact nomatch e
   ·injection e with e1 _;rw[e1]
 byValue:=λk v h=>by
  rcases jz h with⟨i,t,rfl,rfl⟩|⟨x,t,rfl,rfl⟩<;>rfl
 pyHash:=λhv h=>by
  rcases jz hv with⟨i,t,rfl,rfl⟩|⟨x,t,rfl,rfl⟩
  ·exact wpAny_pyHash_int h
  ·exact wpAny_pyHash_str h
 eqBool:=λf hv h=>by
  rcases jz f with⟨i,t,rfl,rfl⟩|⟨x,t,rfl,rfl⟩
  ·rcases jz hv with⟨j,u,rfl,rfl⟩|⟨y,u,rfl,rfl⟩
   ·rw[NP]at h;exact wpAny_eqBool_int h
   ·rw[NT]at h;exact SeqAt.EqAt.int_str i t y u _ _ _ _ h
  ·rcases jz hv with⟨j,u,rfl,rfl⟩|⟨y,u,rfl,rfl⟩
   ·rw[N1]at h;exact SeqAt.EqAt.str_int x t j u _ _ _ _ h
   ·rw[Mm]at h;exact wpAny_eqBool_str h
 «strs»:=λk x t v h=>by
  rcases jz h with⟨i,u,rfl,e⟩|⟨y,u,rfl,e⟩
  ·exact nomatch e
  ·injection e with e1 _
   subst e1
   cases v<;>rfl
def yJ(prog:ah)(w:af)(i:Int)(t:Tok):(jB prog w).is (.inl i) (.int i t)=true:=Dy i t
def zl(prog:ah)(w:af)(x:Str)(t:Tok):(jB prog w).is (.inr x) (.str x t)=true:=DU x t
inductive V where
 | non|bl (b:Bool)|int (i:Int)|str (x:Str)|byt (b:Array UInt8)|flt (b:UInt64)|ref (a:aq)|ty (n:String)
 deriving DecidableEq
abbrev RelV:V->aa->Prop
 | .non,u=>u=Value.none
 | .bl b,u=>u=Value.bool b
 | .int i,u=>∃t,u=Value.int i t
 | .str x,u=>∃t,u=Value.str x t
 | .byt b,u=>∃t,u=Value.bytes b t
 | .flt b,u=>∃t,u=Value.float b t
 | .ref a,u=>u=Value.ref a
 | .ty n,u=>u=Value.type n
meta abbrev Vals:List V->ba->Prop:=Paired RelV
def Vals.length{xs:List V}{us:ba}(r:Vals xs us):xs.length=us.length:=f9 r
theorem Vals.get:∀{xs:List V}{us:ba}{i:Nat}{x:V},Vals xs us->xs[i]?=some x->∃u,us[i]?=some u/\RelV x u
 | _,_,_,_,.nil,e=>by simp at e
 | _,_,0,_,.cons r _,e=>by simp at e;subst e;exact⟨_,rfl,r⟩
 | _,_,i+1,x,.cons _ t,e=>by
  obtain⟨u,h1,h2⟩:=Vals.get (i:=i) (x:=x) t (by simpa using e);exact⟨u,by simpa using h1,h2⟩
theorem Vals.set{x:V}(r:RelV x u):∀{xs:List V}{us:ba}(i:Nat),Vals xs us->Vals (xs.set i x) (us.set i u)
 | _,_,_,.nil=>.nil
 | _,_,0,.cons _ t=>.cons r t
 | _,_,i+1,.cons q t=>.cons q<|Vals.set r i t
theorem Vals.append:∀{xs ys:List V}{us ws:ba},Vals xs us->Vals ys ws->Vals (xs++ys) (us++ws)
 | _,_,_,_,.nil,s=>s
 | _,_,_,_,.cons r t,s=>.cons r<|Vals.append t s
theorem Vals.take:∀{xs:List V}{us:ba}(n:Nat),Vals xs us->Vals (xs.take n) (us.take n)
 | _,_,0,_=>.nil
 | _,_,_+1,.nil=>.nil
 | _,_,n+1,.cons r t=>.cons r<|Vals.take n t
theorem Vals.drop:∀{xs:List V}{us:ba}(n:Nat),Vals xs us->Vals (xs.drop n) (us.drop n)
 | _,_,0,r=>r
 | _,_,_+1,.nil=>.nil
 | _,_,n+1,.cons _ t=>Vals.drop n t
abbrev ve:Option V->bi->Prop
 | some v,some u=>RelV v u
 | none,none=>True
 | _,_=>False
abbrev KV {κ:Type}:List (κ×V)->List (κ×aa)->Prop:=Paired λ(p:κ×V) (q:κ×aa)=>p.1=q.1/\RelV p.2 q.2
abbrev kV:Key->V
 | .inl i=>.int i
 | .inr x=>.str x
inductive HO where
 | lst (xs:List V)
 | tup (xs:List V)
 | dK (kvs:List<|Key×V)|dT (kvs:List<|List Key×V)
 | set (S:Int->Bool) (n:Nat)
 | ins (C dx:aq) (fs:List<|Str×V)
 | own (x:aq)
 | xd (fs:List<|Str×V)
 | met (f x:aq)
 | rng (lo hi:Int)
 | frz (o:Obj) (u:HO)
 | tbl (ps:Array aa)
 | ext (φ:au->Prop)
meta abbrev Hp:=aq->Option HO
abbrev upd (H:Hp)(a:aq)(o:HO):Hp:=λb=>if b=a then some o else H b
def iW{H:Hp}{a:aq}:upd H a o a=some o:=by unfold upd;rw[aR rfl]
def iB{H:Hp}{a:aq}(h:b≠a):upd H a o b=H b:=by unfold upd;rw[aU h]
def AB{H:Hp}{a:aq}(h:H a=some o)(h':H b=some u)(d:o≠u):a≠b:=by
 intro e;subst e;rw[h]at h';exact d<|aV h'
def iM{H:Hp}{a:aq}(h:H a=some o)(h':H b=none):a≠b:=by
 intro e;subst e;rw[h]at h';cases h'
abbrev mV (h:au)(a:aq)(j:Array aa):Prop:=∃o,h.get? a=some o/\o.cls=.type "tuple" /\ o.dict=none/\∃n,o.data=.seq j n
def mV.tup{a:aq}:mV h a items->IsTup h a items:=λ⟨o,e,c,_,n,d⟩=>⟨o,e,c,n,d⟩
def mV.new(h:au)(j:Array aa):mV (h.push { cls:=.type "tuple",data:=.seq j }) h.objs.size j:=⟨_,bI _ rfl,rfl,rfl,_,rfl⟩
def mV.lt{h:au}{a:aq}(x:mV h a items):a<h.objs.size:=let⟨_,ho,_⟩:=x;aZ ho
section
variable (P:ah) (w:af)
abbrev jq (H:Hp)(h:au)(a:aq):HO->Prop
 | .lst xs=>xs.length<=sizeLine/\∃(d:ba) (n:Nat),Vals xs d/\h.get? a=some { cls:=.type "list",data:=.seq d.toArray n }
 | .tup xs=>xs.length<=sizeLine/\∃d:ba,Vals xs d/\mV h a d.toArray
 | .dK kvs=>kvs.length<=sizeLine/\(a == sysModules)=false/\∃k,KV kvs k/\h.DictOf (jB P w) a k
 | .dT kvs=>kvs.length<=sizeLine/\(a == sysModules)=false/\∃xs:List<|List Key×aq×aa,
   Paired (λ(p:List Key×V) (q:List Key×aq×aa)=>p.1=q.1/\H q.2.1=some (.tup<|p.1.map kV)/\RelV p.2 q.2.2) kvs xs /\
   ∃o es ep,h.get? a=some o/\o.ExactDict/\o.data=.dict es ep/\es.toList=xs.map (entryOfKey<|tupleKind<|jB P w)/\(xs.map (·.1)).Nodup
 | .set S n=>h.SetOf (intKind P w) a S n
 | .ins C dx fs=>H dx=some (.own a)/\fs.length<=1000/\dx≠a/\h.get? a=some (PySem.W.instObj C dx) /\
   ∃g,h.Ns1 dx g/\(∀f,ve (fs.lookup f)<|g f)/\PySem.Within g (fs.map (·.1))
 | .own _=>∃o,h.get? a=some o
 | .xd fs=>∃g,h.Ns1 a g/\∀f,ve (fs.lookup f) (g f)
 | .rng lo hi=>∃t u v,h.get? a=some { cls:=.type "range",data:=.fields #[.int lo t,.int hi u,.int 1 v]}
 | .frz o u=>h.get? a=some o/\jq H h a u
 | .tbl ps=>h.get? a=some { cls:=.none,data:=.fields ps }
 | .met f x=>h.get? a=some (PySem.W.methodObj (.ref f)<|.ref x)
 | .ext j=>j h/\(∃o,h.get? a=some o)/\∀h1 h2:au,j h1->(∀o,h1.get? a=some o->h2.get? a=some o)->j h2
abbrev qN (H:Hp)(h:au):Prop:=∀a o,H a=some o->jq P w H h a o
end
section
variable {P:ah}{w:af}{H H':Hp}{h h':au}{a:aq}{o:HO}
def jq.lt(x:jq P w H h a o):a<h.objs.size:=by
 cases o with
 | lst xs=>obtain⟨_,_,_,_,e⟩:=x;exact aZ e
 | tup xs=>obtain⟨_,_,_,p⟩:=x;exact mV.lt p
 | dK kvs=>obtain⟨_,_,_,_,o,_,_,e,_⟩:=x;exact aZ e
 | dT kvs=>obtain⟨_,_,_,_,o,_,_,e,_⟩:=x;exact aZ e
 | set S n=>obtain⟨o,_,_,_,e,_⟩:=x;exact aZ e
 | ins C dx fs=>obtain⟨_,_,_,e,_⟩:=x;exact aZ e
 | own y=>obtain⟨_,e⟩:=x;exact aZ e
 | xd fs=>obtain⟨_,⟨_,_,_,e,_⟩,_⟩:=x;exact aZ e
 | rng lo hi=>obtain⟨_,_,_,e⟩:=x;exact aZ e
 | frz ob u=>obtain⟨e,_⟩:=x;exact aZ e
 | tbl ps=>exact aZ (show h.get? a=some _ from x)
 | met f y=>exact aZ (show h.get? a=some _ from x)
 | ext d=>obtain⟨_,⟨_,e⟩,_⟩:=x;exact aZ e
theorem Paired.MM{α β:Type}{F G:α->β->Prop}:∀{l₁:List α}{l₂:List β},Paired F l₁ l₂->(∀a b,F a b->G a b)->Paired G l₁ l₂
 | _,_,.nil,_=>.nil
 | _,_,.cons r t,f=>.cons (f _ _ r)<|Paired.MM t f
def jq.stay(x:jq P w H h a o)(k:∀b u,(b=a\/H b=some (.own a))->h.get? b=some u->h'.get? b=some u)
  (L:∀b,H b=some (.own a)->H' b=some (.own a)) (M:∀b xs,H b=some (.tup xs)->H' b=some (.tup xs)):jq P w H' h' a o:=by
 induction o with
 | lst xs=>obtain⟨z,g,n,r,e⟩:=x;exact⟨z,g,n,r,k _ _ (.inl rfl) e⟩
 | tup xs=>obtain⟨z,g,r,ob,e,c⟩:=x;exact⟨z,g,r,ob,k _ _ (.inl rfl) e,c⟩
 | dK kvs=>obtain⟨z,y,B,r,ob,es,ep,e,c⟩:=x;exact⟨z,y,B,r,ob,es,ep,k _ _ (.inl rfl) e,c⟩
 | dT kvs=>
  obtain⟨z,y,xs,r,ob,es,ep,e,c⟩:=x;exact⟨z,y,xs,Paired.MM r λp q z=>⟨z.1,M _ _ z.2.1,z.2.2⟩,ob,es,ep,k _ _ (.inl rfl) e,c⟩
 | set S n=>obtain⟨ob,es,ep,t,e,c⟩:=x;exact⟨ob,es,ep,t,k _ _ (.inl rfl) e,c⟩
 | ins C dx fs=>
  obtain⟨d,z,G,e,j,⟨m,es,ep,e2,c⟩,r⟩:=x;exact⟨L _ d,z,G,k _ _ (.inl rfl) e,j,⟨m,es,ep,k _ _ (.inr d) e2,c⟩,r⟩
 | own y=>obtain⟨ob,e⟩:=x;exact⟨ob,k _ _ (.inl rfl) e⟩
 | xd fs=>obtain⟨j,⟨m,es,ep,e,c⟩,r⟩:=x;exact⟨j,⟨m,es,ep,k _ _ (.inl rfl) e,c⟩,r⟩
 | rng lo hi=>obtain⟨t,u,v,e⟩:=x;exact⟨t,u,v,k _ _ (.inl rfl) e⟩
 | frz ob u F=>obtain⟨e,q⟩:=x;exact⟨k _ _ (.inl rfl) e,F q⟩
 | tbl ps=>
  have e:h.get? a=some { cls:=.none,data:=.fields ps }:=x
  skip
  exact k a _ (.inl rfl) e
 | met f y=>
  have e:h.get? a=some (PySem.W.methodObj (.ref f)<|.ref y):=x
  skip
  exact k a _ (.inl rfl) e
 | ext J=>obtain⟨p,⟨o,e⟩,st⟩:=x;exact⟨st _ _ p λo q=>k _ _ (.inl rfl) q,⟨o,k _ _ (.inl rfl) e⟩,st⟩
def qN.lt(x:qN P w H h)(e:H a=some o):a<h.objs.size:=(x a o e).lt
def qN.fresh(x:qN P w H h)(e:h.objs.size<=a):H a=none:=by
 cases q:H a with
 | none=>rfl
 | some u=>exact absurd (bM (x.lt q) e)<|eZ _
def qN.kept(x:qN P w H h)(k:∀b u,h.get? b=some u->h'.get? b=some u):qN P w H h':=λa o e=>
 (x a o e).stay (λb u _ q=>k b u q) (λ_ q=>q) λ_ _ q=>q
def qN.laid(x:qN P w H h)(k:∀b u,h.get? b=some u->h'.get? b=some u)(hp:h.objs.size<=a)(new:jq P w (upd H a o) h' a o):qN P w (upd H a o) h':=λb u e=>by
 have hn:=x.fresh hp;by_cases hb:b=a
 ·subst hb;rw[iW]at e;cases e;exact new
 ·rw[iB hb]at e;exact(x b u e).stay (λc v _ q=>k c v q) (λc q=>by rw[iB<|iM q hn];exact q) λc xs q=>by rw[iB<|iM q hn];exact q
end
abbrev Rd (H:Hp)(a:aq)(u:HO):Prop:=H a=some u\/∃o,H a=some (.frz o u)
def Rd.ok{P:ah}{w:af}{H:Hp}{a:aq}(r:Rd H a u)(x:qN P w H h):jq P w H h a u:=by
 rcases r with r|⟨o,r⟩
 ·exact x a u r
 ·obtain⟨_,q⟩:=x a _ r;exact q
abbrev O5:Option HO->Prop
 | some (.lst _)=>True
 | some (.dK _)=>True
 | some (.dT _)=>True
 | some (.set _ _)=>True
 | some (.ins _ _ _)=>True
 | some (.ext _)=>True
 | _=>False
section
variable {P:ah}{w:af}{H:Hp}{h h':au}{x e:aq}{o':HO}
def qN.write(ok:qN P w H h)(J:O5<|H x)(M:e=x\/H e=some (.own x))(k:∀b u,b≠e->h.get? b=some u->h'.get? b=some u)(L:∃u,h'.get? e=some u)
  (new:jq P w (upd H x o') h' x o'):qN P w (upd H x o') h':=λb u q=>by
 have f:∀c y,H c=some (.own y)->c≠x:=λc y r z=>by subst z;rw[r]at J;exact J
 have g:∀c xs,H c=some (.tup xs)->c≠x:=λc xs r z=>by subst z;rw[r]at J;exact J
 by_cases hb:b=x
 ·subst hb;rw[iW]at q;cases q;exact new
 ·rw[iB hb]at q;by_cases d:b=e
  ·have j:H b=some (.own x):=by
    rcases M with z|z
    ·exact absurd (d.trans z) hb
    ·rw[d];exact z
   rw[q]at j;cases j;obtain⟨v,hv⟩:=L;exact⟨v,by rw[d];exact hv⟩
  ·refine(ok b u q).stay (λc v hc r=>k c v ?_ r) (λc r=>by rw[iB<|f c b r];exact r) λc xs r=>by rw[iB<|g c xs r];exact r
   rcases hc with rfl|hc
   ·exact d
   ·rintro rfl
    rcases M with z|z
    ·exact f c b hc z
    ·rw[hc]at z;cases z;exact hb rfl
end
structure Un (fs ex:bd)(H H':Hp)(h h':au):Prop where
 keep:∀b o,h.get? b=some o->H b=none->b∉fs->b∉ex->h'.get? b=some o
 slot:∀b o,h.get? b=some o->H b=none->b∈fs->b∉ex->∃sl,h'.get? b=some { o with slots:=sl }
 free:∀b o,h.get? b=some o->H b=none->b∉ex->H' b=none
 there:∀b o,h.get? b=some o->b∉ex->∃o',h'.get? b=some o'
 tups:∀b xs,H b=some (.tup xs)->H' b=some (.tup xs)
 frzs:∀b o u,H b=some (.frz o u)->H' b=some (.frz o u)
 tbls:∀b ps,H b=some (.tbl ps)->∃more,H' b=some (.tbl<|ps++more)
section
variable {fs ex:bd}{H H1:Hp}{h h1 h':au}{a x e:aq}{o:HO}
def Un.any(u:Un fs ex H H1 h h1){ob:Obj}(q:h.get? b=some ob)(n:H b=none)(hx:b∉ex):∃sl,h1.get? b=some { ob with slots:=sl }:=by
 by_cases hb:b∈fs
 ·exact u.slot b ob q n hb hx
 ·exact⟨ob.slots,u.keep b ob q n hb hx⟩
def Un.kept(k:∀b u,h.get? b=some u->h'.get? b=some u):Un fs ex H H h h':=
 ⟨λb ob q _ _ _=>k b ob q,λb ob q _ _ _=>⟨ob.slots,k b ob q⟩,λ_ _ _ n _=>n,λb ob q _=>⟨ob,k b ob q⟩,λ_ _ q=>q,λ_ _ _ q=>q,λ_ ps q=>⟨#[],by rw[q];simp⟩⟩
def Un.refl:Un fs ex H H h h:=Un.kept λ_ _ q=>q
def Un.laid(k:∀b u,h.get? b=some u->h'.get? b=some u)(hp:h.objs.size<=a)(hn:H a=none):Un fs ex H (upd H a o) h h' where
 keep:=λb u q _ _ _=>k b u q
 slot:=λb u q _ _ _=>⟨u.slots,k b u q⟩
 free:=λb u q n _=>by rw[iB<|bB<|bM (aZ q) hp];exact n
 there:=λb u q _=>⟨u,k b u q⟩
 tups:=λb xs q=>by rw[iB<|iM q hn];exact q
 frzs:=λb u xs q=>by rw[iB<|iM q hn];exact q
 tbls:=λb ps q=>⟨#[],by rw[iB<|iM q hn,q];simp⟩
def Un.write(j:O5<|H x)(L:e=x\/H e=some (.own x))(k:∀b u,b≠e->h.get? b=some u->h'.get? b=some u)(J:∃u,h'.get? e=some u):Un fs ex H (upd H x o) h h':=by
 have hx:∀b,H b=none->b≠x:=λb n z=>by subst z;rw[n]at j;exact j
 have hb:∀b,H b=none->b≠e:=λb n z=>by
  subst z
  rcases L with r|r
  ·exact hx b n r
  ·rw[n]at r;cases r
 have hm:∀b u,H b=some u->¬O5 (some u)->b≠x:=λb u q f z=>by subst z;rw[q]at j;exact f j
 refine⟨λb u q n _ _=>k b u (hb b n) q,λb u q n _ _=>⟨u.slots,k b u (hb b n) q⟩,λb u q n _=>by rw[iB<|hx b n];exact n,λb u q _=>?_,
  λb xs q=>by rw[iB<|hm b _ q λz=>z];exact q,λb u xs q=>by rw[iB<|hm b _ q λz=>z];exact q,λb ps q=>⟨#[],by rw[iB<|hm b _ q λz=>z,q];simp⟩⟩
 by_cases d:b=e
 ·subst d;exact J
 ·exact⟨u,k b u d q⟩
end
abbrev Qx (h:au)(H:Hp):bd:=(List.range h.objs.size).filter λa=>(H a).isSome
abbrev w_ (h:au)(H:Hp):au:=PySem.W.hideAll h<|Qx h H
def DH(h:au)(H:Hp):(w_ h H).objs.size=h.objs.size:=PySem.W.hideAll_size _ _
def IV{h:au}{H:Hp}(e:h.get? b=some o)(n:H b=none):(w_ h H).get? b=some o:=
 PySem.W.hideAll_get _ e λhm=>by
  have q:(H b).isSome=true:=(List.mem_filter.mp hm).2;rw[n]at q;simp at q
def Jr{h:au}{H:Hp}(e:(w_ h H).get? b=some o):h.get? b=some o/\H b=none:=by
 have d:h.get? b=some o:=PySem.W.of_hideAll (Qx h H) e;refine⟨d,?_⟩
 cases q:H b with
 | none=>rfl
 | some x=>
  have hm:b∈Qx h H:=List.mem_filter.mpr ⟨ie.mpr<|aZ d,by simp[q]⟩;have z:(w_ h H).get? b=none:=PySem.W.hideAll_none (Qx h H) hm;rw[z]at e;cases e
abbrev KD (g h:au)(L:aq):bt:=(List.range h.objs.size).filterMap λa=>if a=L\/(g.get? a).isSome=true then none else(h.get? a).map λo=>(a,o)
abbrev rest (g h:au)(L d:aq):bt:=(KD g h L).filter λp=>decide<|p.1≠d
structure Mod (K:aA)(mg:Str->bi)(base:au):Prop where
 kin:K.In base
 glob:base.Ns mainGlobals mg
 blt:∃mb,base.Ns builtinsNs mb/\∀x:Str,x ≠ "__name__" -> mb x=bootBuiltins x
 nolimit:base.NoLimit
structure Cx where
 prog:ah
 w:af
 K:aA
 mg:Str->bi
 base:au
 A:aC
 N:ar
 s₀:aE
 H₀:Hp
 env:Env
 outer:List Env
 stack:List Env
 ex:bd
 fn:Str->Bool
 calm:Bool
 pn:bt
 xe:aa->aE->Prop
abbrev frs (l:List Env):bd:=l.filterMap (·.frame)
meta abbrev Cx.fs (X:Cx):bd:=frs X.outer
abbrev Ot (j:Scope)(x:Str):Prop:=j.names.lookup x=some .local\/j.names.lookup x=some .cell\/j.names.lookup x=some .free
abbrev Loc (j:Scope)(x:Str):Prop:=j.names.lookup x=some .local\/j.names.lookup x=some .cell
abbrev Look (env:Env)(h:au)(m:Str->bi)(x:Str)(u:aa):Prop:=
 (env.kindOf x=some .local/\m x=some u)\/((env.kindOf x=some .cell\/env.kindOf x=some .free)/\∃c,env.cells.lookup x=some c/\h.IsCell c (some u))
structure Cx.Ok (X:Cx):Prop where
 mod:Mod X.K X.mg X.base
 kind:X.env.scope.kind=.function
 glob:X.env.globals=mainGlobals
 blt:X.env.builtins=builtinsNs
 above:X.s₀.heap.objs.size<=X.env.locals
 inj:∀x y c,X.env.cells.lookup x=some c->X.env.cells.lookup y=some c->x=y
 has:∀x,(X.env.kindOf x=some .cell\/X.env.kindOf x=some .free)->∃c,X.env.cells.lookup x=some c
 cab:∀x c,X.fn x=true->X.env.cells.lookup x=some c->X.s₀.heap.objs.size<=c
 hd:X.calm=true->X.A.handled=none
 frames:X.A.frames=some X.stack
 stk:X.stack=X.outer\/(X.stack=X.env::X.outer/\X.env.frame=some X.env.locals)
 exf:∀b∈X.ex,b≠X.env.locals/\∀x c,X.env.cells.lookup x=some c->c≠b
 bs:∀b o,X.base.get? b=some o->X.s₀.heap.get? b=some o/\X.H₀ b=none
 bsz:X.base.objs.size<=X.s₀.heap.objs.size
 noex:∀b o,X.base.get? b=some o->b∉X.ex
 exfs:∀b∈X.ex,b∉X.fs
 u7:X.s₀.heap.FunFrames X.base X.outer
 frf:∀b∈X.fs,X.H₀ b=none
structure Inv (X:Cx)(pins:bt)(σ:List (Option V))(H:Hp)(s:aE):Prop where
 ok:X.Ok
 os:s.os=X.s₀.os
 bare:AllBare s.gens
 base:Un X.fs X.ex X.H₀ H X.s₀.heap s.heap
 loc:∃m,s.heap.Ns X.env.locals m/\∀(i:Nat) (x:Str) (v:V),X.N[i]?=some x->σ[i]?=some (some v)->Ot X.env.scope x->∃u,RelV v u/\Look X.env s.heap m x u
 cell:∀x c,X.env.cells.lookup x=some c->∃v,s.heap.IsCell c v
 free:H X.env.locals=none
 freeC:∀x c,X.env.cells.lookup x=some c->H c=none
 pin:∀p∈X.pn++pins,s.heap.get? p.1=some p.2/\H p.1=none/\p.1≠X.env.locals/\p.1∉X.fs/\∀v,p.2.data≠.cell v
 hok:qN X.prog X.w H s.heap
 len:σ.length=X.N.length
section
variable {X:Cx}{pins:bt}{σ:List (Option V)}{H H':Hp}{s:aE}{h':au}
def Cx.Ok.RV(ok:X.Ok)(e:X.base.get? b=some o):b∉X.fs:=λhb=>by
 have:=(ok.u7.mem hb).1;rw[e]at this;cases this
def Inv.bs(I:Inv X pins σ H s):∀b o,X.base.get? b=some o->s.heap.get? b=some o/\H b=none:=λb o e=>
 ⟨I.base.keep b o (I.ok.bs b o e).1 (I.ok.bs b o e).2 (I.ok.RV e)<|I.ok.noex b o e,I.base.free b o (I.ok.bs b o e).1 (I.ok.bs b o e).2<|I.ok.noex b o e⟩
def Inv.bk(I:Inv X pins σ H s):∀b o,X.base.get? b=some o->s.heap.get? b=some o:=λb o e=>(I.bs b o e).1
def Inv.mod(I:Inv X pins σ H s):Mod X.K X.mg X.base:=I.ok.mod
def Inv.xR(I:Inv X pins σ H s):X.K.In s.heap:=I.ok.mod.kin.keeps I.bk
def Inv.lt(I:Inv X pins σ H s):X.env.locals<s.heap.objs.size:=let⟨_,hn,_⟩:=I.loc;hn.lt
def Inv.sz(I:Inv X pins σ H s):X.s₀.heap.objs.size<=s.heap.objs.size:=bH I.ok.above<|cQ I.lt
def Inv.RY(I:Inv X pins σ H s){a:aq}(h:s.heap.objs.size<=a):a∉X.fs:=λhb=>by
 obtain⟨_,o,d,_⟩:=I.ok.u7.mem hb;exact absurd (bM (aZ d)<|bH I.sz h)<|eZ _
def Inv.NZ(I:Inv X pins σ H s):∀x c,X.env.cells.lookup x=some c->c≠X.env.locals:=λx c e z=>by
 obtain⟨v,o,g,hd⟩:=I.cell x c e;obtain⟨m,⟨o',es,ep,f,d,_⟩,_⟩:=I.loc;rw[z,f]at g;cases g;rw[d]at hd;cases hd
def Inv.u7(I:Inv X pins σ H s):s.heap.FunFrames X.base X.outer:=by
 have all:∀(l:List Env),(∀b∈frs l,b∈X.fs)->X.s₀.heap.FunFrames X.base l->s.heap.FunFrames X.base l:=by
  intro l
  induction l with
  | nil=>intro _ _;trivial
  | cons env r g=>
   intro hs j;obtain⟨f,⟨L,o,hf,hn,k,hd⟩,hr⟩:=j;have d:L∈X.fs:=hs L (by unfold frs;rw[gq,hf];exact aM);obtain⟨m,e⟩:=I.base.slot L o k (I.ok.frf L d) d λz=>I.ok.exfs L z d;exact⟨f,⟨L,_,hf,hn,e,hd⟩,g (λb hb=>hs b<|by unfold frs;rw[gq,hf];exact aN _ hb) hr⟩
 exact all X.outer (λ_ hb=>hb) I.ok.u7
def Inv.stack(I:Inv X pins σ H s):s.heap.FunFrames X.base X.stack:=by
 rcases I.ok.stk with e|⟨e,hf⟩
 ·rw[e];exact I.u7
 ·rw[e];obtain⟨m,hn,_⟩:=I.loc;refine .cons (by rw[I.ok.kind];decide) hf hn ?_ I.u7;exact Heap.get?_none_of_le<|bH I.ok.bsz I.ok.above
def Inv.zN(I:Inv X pins σ H s):∀b∈frs X.stack,b∈X.env.locals::X.fs:=λb hb=>by
 rcases I.ok.stk with e|⟨e,hf⟩
 ·rw[e]at hb;exact aN _ hb
 ·rw[e]at hb;unfold frs at hb;rw[gq,hf]at hb;exact hb
def Inv.CC(I:Inv X pins σ H s):∀b∈frs X.stack,H b=none:=λb hb=>by
 rcases a_.mp (I.zN b hb)with e|hb
 ·rw[e];exact I.free
 ·obtain⟨_,o,d,_⟩:=I.ok.u7.mem hb;exact I.base.free b o d (I.ok.frf b hb) λz=>I.ok.exfs b z hb
def Inv.step{g':Array GenState}{t':Nat}{d':Drawn}{ch:bd}(I:Inv X pins σ H s)
  (L:∀b∈ch,(b∈X.ex\/X.s₀.heap.objs.size<=b)/\b≠X.env.locals/\(∀x c,X.env.cells.lookup x=some c->c≠b)/\∀p∈X.pn++pins,p.1≠b)
  (keep:∀b o,b≠X.env.locals->b∉X.fs->b∉ch->s.heap.get? b=some o->H b=none->h'.get? b=some o)
  (slot:∀b o,b≠X.env.locals->b∈X.fs->b∉ch->s.heap.get? b=some o->H b=none->∃sl,h'.get? b=some { o with slots:=sl }) (free:∀b o,b∉ch->s.heap.get? b=some o->H b=none->H' b=none)
  (there:∀b o,b∉ch->s.heap.get? b=some o->∃o',h'.get? b=some o')
  (tups:∀b xs,H b=some (.tup xs)->H' b=some (.tup xs)) (frzs:∀b o u,H b=some (.frz o u)->H' b=some (.frz o u)) (tbls:∀b ps,H b=some (.tbl ps)->∃more,H' b=some (.tbl<|ps++more))
  (ns:∀m,s.heap.Ns X.env.locals m->h'.Ns X.env.locals m) (hok:qN X.prog X.w H' h') (hg:AllBare g') :
  Inv X pins σ H' { s with heap:=h',gens:=g',drawn:=d',toks:=t' }:=by
 have B:∀b o,X.s₀.heap.get? b=some o->b≠X.env.locals:=λb o e=>bB<|bM (aZ e) I.ok.above;have j:∀b o,X.s₀.heap.get? b=some o->b∉X.ex->b∉ch:=λb o e hx hb=>by
  rcases(L b hb).1 with z|z
  ·exact hx z
  ·exact absurd (bM (aZ e) z)<|eZ _
 have f:∀x c,X.env.cells.lookup x=some c->∀v,s.heap.IsCell c v->h'.IsCell c v:=λx c e v ⟨o,t,hd⟩=>by
  have g:c∉ch:=λz=>(L c z).2.2.1 x c e rfl;by_cases hc:c∈X.fs
  ·obtain⟨sl,q⟩:=slot c o (I.NZ x c e) hc g t<|I.freeC x c e;exact⟨_,q,hd⟩
  ·exact⟨o,keep c o (I.NZ x c e) hc g t<|I.freeC x c e,hd⟩
 refine⟨I.ok,I.os,hg,⟨λb o e n hb hx=>?_,λb o e n hb hx=>?_,λb o e n hx=>?_,λb o e hx=>?_,λb xs e=>tups b xs<|I.base.tups b xs e,λb o xs e=>frzs b o xs<|I.base.frzs b o xs e,λb ps e=>?_⟩,?_,λx c e=>?_,?_,λx c e=>?_,λp hp=>?_,hok,I.len⟩
 ·exact keep b o (B b o e) hb (j b o e hx) (I.base.keep b o e n hb hx) (I.base.free b o e n hx)
 ·obtain⟨sl,e1⟩:=I.base.slot b o e n hb hx;obtain⟨C,e2⟩:=slot b _ (B b o e) hb (j b o e hx) e1<|I.base.free b o e n hx;exact⟨C,e2⟩
 ·obtain⟨o',e1⟩:=I.base.there b o e hx;exact free b o' (j b o e hx) e1 (I.base.free b o e n hx)
 ·obtain⟨o',e1⟩:=I.base.there b o e hx;exact there b o' (j b o e hx) e1
 ·obtain⟨m1,e1⟩:=I.base.tbls b ps e;obtain⟨m2,e2⟩:=tbls b _ e1;exact⟨m1++m2,by rw[e2,Array.append_assoc]⟩
 ·obtain⟨m,hn,K⟩:=I.loc;refine⟨m,ns m hn,λi x v e1 e2 J=>?_⟩;obtain⟨u,r,l⟩:=K i x v e1 e2 J;refine⟨u,r,?_⟩
  rcases l with l|⟨k,c,e,z⟩
  ·exact .inl l
  ·exact .inr ⟨k,c,e,f x c e _ z⟩
 ·obtain⟨v,z⟩:=I.cell x c e;exact⟨v,f x c e v z⟩
 ·obtain⟨m,⟨o,_,_,t,_⟩,_⟩:=I.loc;exact free _ o (λz=>(L _ z).2.1 rfl) t I.free
 ·obtain⟨v,o,t,hd⟩:=I.cell x c e;exact free c o (λz=>(L c z).2.2.1 x c e rfl) t (I.freeC x c e)
 ·obtain⟨e,n,G,F,d⟩:=I.pin p hp;have g:p.1∉ch:=λz=>(L p.1 z).2.2.2 p hp rfl;exact⟨keep p.1 p.2 G F g e n,free p.1 p.2 g e n,G,F,d⟩
def Inv.un{t':Nat}(I:Inv X pins σ H s)(u:Un X.fs [] H H' s.heap h')(hok:qN X.prog X.w H' h'):Inv X pins σ H' { s with heap:=h',toks:=t' }:=by
 obtain⟨m,⟨o,es,ep,j,r⟩,_⟩:=id I.loc;obtain⟨z,t⟩:=u.any j I.free (by simp);exact I.step (g':=s.gens) (d':=s.drawn) (ch:=[]) (nofun) (λb o _ hb _ e n=>u.keep b o e n hb<|by simp) (λb o _ hb _ e n=>u.slot b o e n hb<|by simp) (λb o _ e n=>u.free b o e n<|by simp) (λb o _ e=>u.there b o e<|by simp) u.tups u.frzs u.tbls (λm' hm=>by
  obtain⟨o',g,f,d,k⟩:=hm;rw[j]at d;cases d;exact⟨_,g,f,t,k⟩) hok I.bare
def Inv.call{g':Array GenState}{t':Nat}{d':Drawn}{ch:bd}(I:Inv X pins σ H s)(u:Un (frs X.stack) ch H H' s.heap h')(hok:qN X.prog X.w H' h')(hg:AllBare g')
  (J:∀b∈ch,(b∈X.ex\/X.s₀.heap.objs.size<=b)/\b≠X.env.locals/\(∀x c,X.env.cells.lookup x=some c->c≠b)/\∀p∈X.pn++pins,p.1≠b) :
  Inv X pins σ H' { s with heap:=h',gens:=g',drawn:=d',toks:=t' }:=by
 obtain⟨m,⟨o,es,ep,k,r⟩,_⟩:=id I.loc;obtain⟨B,j⟩:=u.any k I.free λz=>(J _ z).2.1 rfl;exact I.step (ch:=ch) J (λb o j hb hc e n=>u.keep b o e n (λz=>(a_.mp<|I.zN b z).elim j hb) hc) (λb o _ _ hc e n=>u.any e n hc) (λb o hc e n=>u.free b o e n hc) (λb o hc e=>u.there b o e hc) u.tups u.frzs u.tbls (λm' hm=>by
  obtain⟨o',g,f,d,t⟩:=hm;rw[k]at d;cases d;exact⟨_,g,f,j,t⟩) hok hg
def Inv.turned{t':Nat}{it:aq}(I:Inv X pins σ H s)(k:∀b o,b≠it->s.heap.get? b=some o->h'.get? b=some o)(hn:H it=none)(j:it≠X.env.locals)
  (h1:it∈X.ex\/X.s₀.heap.objs.size<=it) (h2:∀x c,X.env.cells.lookup x=some c->c≠it) (J:∀p∈X.pn++pins,p.1≠it):Inv X pins σ H { s with heap:=h',toks:=t' }:=by
 have d:∀b u,H b=some u->b≠it:=λb u e z=>by rw[z,hn]at e;cases e
 refine I.step (g':=s.gens) (d':=s.drawn) (ch:=[it]) (λb hb=>?_) (λb o _ _ hc e _=>k b o (λz=>hc<|by simp[z]) e) (λb o _ _ hc e _=>⟨o.slots,k b o (λz=>hc<|by simp[z]) e⟩) (λ_ _ _ _ n=>n)
  (λb o hc e=>⟨o,k b o (λz=>hc<|by simp[z]) e⟩) (λ_ _ e=>e) (λ_ _ _ e=>e) (λb ps e=>⟨#[],by rw[e];simp⟩) (λm hm=>?_) (λb u e=>?_) I.bare
 ·have e:b=it:=by simpa using hb
  subst e;exact⟨h1,j,h2,J⟩
 ·obtain⟨o,es,ep,f,r⟩:=hm;exact⟨o,es,ep,k _ o (b_ j) f,r⟩
 ·refine(I.hok b u e).stay (λc v hc q=>k c v ?_ q) (λ_ q=>q) λ_ _ q=>q
  rcases hc with z|z
  ·rw[z];exact d b u e
  ·exact d c _ z
def Inv.tok(I:Inv X pins σ H s)(t:Nat):Inv X pins σ H { s with toks:=t }:=I.un (h':=s.heap) (t':=t) Un.refl I.hok
def Inv.kept{t':Nat}(I:Inv X pins σ H s)(k:∀b u,s.heap.get? b=some u->h'.get? b=some u):Inv X pins σ H { s with heap:=h',toks:=t' }:=I.un (Un.kept k)<|I.hok.kept k
def Inv.laid{a:aq}{t':Nat}(I:Inv X pins σ H s)(k:∀b u,s.heap.get? b=some u->h'.get? b=some u)(hp:s.heap.objs.size<=a)(new:jq X.prog X.w (upd H a o) h' a o) :
  Inv X pins σ (upd H a o) { s with heap:=h',toks:=t' }:=I.un (Un.laid k hp<|I.hok.fresh hp)<|I.hok.laid k hp new
def Inv.write{x:aq}{t':Nat}(I:Inv X pins σ H s)(J:O5<|H x)(L:e=x\/H e=some (.own x))(k:∀b u,b≠e->s.heap.get? b=some u->h'.get? b=some u)(j:∃u,h'.get? e=some u)
  (new:jq X.prog X.w (upd H x o) h' x o):Inv X pins σ (upd H x o) { s with heap:=h',toks:=t' }:=I.un (Un.write J L k j)<|I.hok.write J L k j new
def Inv.BB{j:bt}(I:Inv X pins σ H s)(h:∀p∈j,s.heap.get? p.1=some p.2/\H p.1=none/\p.1≠X.env.locals/\p.1∉X.fs/\∀v,p.2.data≠.cell v):Inv X j σ H s:=
 ⟨I.ok,I.os,I.bare,I.base,I.loc,I.cell,I.free,I.freeC,λp hp=>(bA.mp hp).elim (λz=>I.pin p<|dz _ z)<|h p,I.hok,I.len⟩
def zj{N:ar}(J:N.Nodup){i j:Nat}{x:Str}(a:N[i]?=some x)(b:N[j]?=some x):i=j:=by
 obtain⟨h1,e1⟩:=aK.mp a;obtain⟨h2,e2⟩:=aK.mp b;exact(eN J).mp (e1.trans e2.symm)
def _root_.γ0(h:1=1:=by first|exact .inl rfl|exact .inr rfl|assumption):1=1:=h
def _root_.γ:Lean.Syntax:=γ0._auto_1
def _root_.δ0(h:1=1:=by decide):1=1:=h
def _root_.δ:Lean.Syntax:=δ0._auto_1
def _root_.ε0(h:1=1:=by rfl):1=1:=h
def _root_.ε:Lean.Syntax:=ε0._auto_1
def _root_.ζ0(h:1=1:=by intro _;rfl):1=1:=h
def _root_.ζ:Lean.Syntax:=ζ0._auto_1
def _root_.η0(h:1=1:=by with_unfolding_all rfl):1=1:=h
def _root_.η:Lean.Syntax:=η0._auto_1
def _root_.θ0(h:1=1:=by exact λ_ _=>rfl):1=1:=h
def _root_.θ:Lean.Syntax:=θ0._auto_1
def Dk{A:aC}{E:aa->aE->Prop}{i:Nat}{x:Str}{v:V}{Q:Unit->aE->Prop}(I:Inv X pins σ H s)(hN:X.N.Nodup)(hi:X.N[i]?=some x)(hx:Loc X.env.scope x)(r:RelV v u)
  (h:∀s',Inv X pins (σ.set i<|some v) H s'->(∃a,Heap.SameBut a s.heap s'.heap/\(a=X.env.locals\/X.env.cells.lookup x=some a))->Q Unit.unit s') (hf:X.fn x=true\/X.env.scope.names.lookup x=some .local<|>γ):wpAny M A (storeName X.env x u) Q E s:=by
 obtain⟨m,hn,hl⟩:=id I.loc;have K:(X.env.scope.kind == .class || (X.env.scope.kind == .module && X.env.locals != X.env.globals))=false:=by rw[I.ok.kind];rfl
 have t:i<σ.length:=by rw[I.len];exact(aK.mp hi).1
 have NZ:=I.NZ;have f:∀{a:aq} {h':au},(∃o,s.heap.get? a=some o/\H a=none)->Heap.SameBut a s.heap h'->qN X.prog X.w H h':=λ{a h'} ha hs b ob e=>by
  obtain⟨_,_,hfree⟩:=ha;refine(I.hok b ob e).stay (λc P hc q=>(hs.2 c ?_).trans q) (λ_ q=>q) λ_ _ q=>q;rintro rfl
  rcases hc with rfl|hc
  ·rw[hfree]at e;cases e
  ·rw[hfree]at hc;cases hc
 rcases hx with g|g
 ·refine wpAny_storeName_local g hn (λh' hn' hs=>?_) K;obtain⟨oL,_,_,hoL,_⟩:=id hn;refine h _ ⟨I.ok,I.os,I.bare,⟨λb o e n hb hx=>?_,λb o e n hb hx=>?_,I.base.free,λb o e hx=>?_,I.base.tups,I.base.frzs,I.base.tbls⟩,⟨_,hn',λj y v' e1 e2 W=>?_⟩,λy c e=>?_,I.free,I.freeC,λp hp=>?_,f ⟨oL,hoL,I.free⟩ hs,by simpa using I.len⟩ ⟨_,hs,.inl rfl⟩
  ·exact(hs.2 b<|bB<|bM (aZ e) I.ok.above).trans (I.base.keep b o e n hb hx)
  ·obtain⟨Z,e1⟩:=I.base.slot b o e n hb hx;exact⟨Z,(hs.2 b<|bB<|bM (aZ e) I.ok.above).trans e1⟩
  ·obtain⟨o',e1⟩:=I.base.there b o e hx;exact⟨o',(hs.2 b<|bB<|bM (aZ e) I.ok.above).trans e1⟩
  ·by_cases B:j=i
   ·subst B;rw[hi]at e1;cases e1;rw[bF t]at e2
    cases e2
    exact⟨u,r,.inl ⟨g,by simp⟩⟩
   ·rw[bE<|b_ B]at e2;obtain⟨u',Y,q⟩:=hl j y v' e1 e2 W;refine⟨u',Y,?_⟩
    rcases q with⟨k,e⟩|⟨k,c,e,z⟩
    ·refine .inl ⟨k,?_⟩;have:y≠x:=λe=>B<|zj hN e1<|e ▸ hi;simp[this,e]
    ·exact .inr ⟨k,c,e,z.sameBut hs<|NZ y c e⟩
  ·obtain⟨P,z⟩:=I.cell y c e;exact⟨P,z.sameBut hs<|NZ y c e⟩
  ·obtain⟨e,n,U,nf,d⟩:=I.pin p hp;exact⟨(hs.2 p.1 U).trans e,n,U,nf,d⟩
 ·have C:X.fn x=true:=by
   rcases hf with z|z
   ·exact z
   ·rw[z]at g;cases g
  obtain⟨c,hc⟩:=I.ok.has x<|.inl g;obtain⟨P,z⟩:=I.cell x c hc;refine wpAny_storeName_cell I.ok.kind g hc z λh' L hs=>?_;obtain⟨oc,J,F⟩:=id z;refine h { s with heap:=h' } ⟨I.ok,I.os,I.bare,⟨λb o e n hb hx=>?_,λb o e n hb hx=>?_,I.base.free,λb o e hx=>?_,I.base.tups,I.base.frzs,I.base.tbls⟩,⟨m,hn.sameBut hs<|b_<|NZ x c hc,λj y v' e1 e2 W=>?_⟩,λy O e=>?_,I.free,I.freeC,λp hp=>?_,f ⟨oc,J,I.freeC x c hc⟩ hs,by simpa using I.len⟩ ⟨c,hs,.inr hc⟩
  ·exact(hs.2 b<|bB<|bM (aZ e)<|I.ok.cab x c C hc).trans (I.base.keep b o e n hb hx)
  ·obtain⟨Z,e1⟩:=I.base.slot b o e n hb hx;exact⟨Z,(hs.2 b<|bB<|bM (aZ e)<|I.ok.cab x c C hc).trans e1⟩
  ·obtain⟨o',e1⟩:=I.base.there b o e hx;exact⟨o',(hs.2 b<|bB<|bM (aZ e)<|I.ok.cab x c C hc).trans e1⟩
  ·by_cases B:j=i
   ·subst B;rw[hi]at e1;cases e1;rw[bF t]at e2
    cases e2
    exact⟨u,r,.inr ⟨.inl g,c,hc,L⟩⟩
   ·rw[bE<|b_ B]at e2;obtain⟨u',Y,q⟩:=hl j y v' e1 e2 W;refine⟨u',Y,?_⟩
    rcases q with q|⟨k,O,e,z'⟩
    ·exact .inl q
    ·refine .inr ⟨k,O,e,z'.sameBut hs ?_⟩;rintro rfl;exact B<|zj hN e1<|I.ok.inj _ _ _ e hc ▸ hi
  ·by_cases G:O=c
   ·subst G;exact⟨_,L⟩
   ·obtain⟨w2,z2⟩:=I.cell y O e;exact⟨w2,z2.sameBut hs G⟩
  ·obtain⟨e,n,U,nf,d⟩:=I.pin p hp;refine⟨(hs.2 p.1 ?_).trans e,n,U,nf,d⟩;intro q;rw[q,J]at e;have q':oc=p.2:=aV e;exact d P<|by rw[<- q'];exact F
def vg{A:aC}{E:aa->aE->Prop}{i:Nat}{x:Str}{v:V}{Q:Unit->aE->Prop}(I:Inv X pins σ H s)(j:X.N.Nodup)(hi:X.N[i]?=some x)(hx:Loc X.env.scope x)(r:RelV v u)
  (h:∀s',Inv X pins (σ.set i<|some v) H s'->Q Unit.unit s') (hf:X.fn x=true\/X.env.scope.names.lookup x=some .local<|>γ):wpAny M A (storeName X.env x u) Q E s:=
 Dk I j hi hx r (λs' d _=>h s' d) hf
def Inv.yO{s':aE}{ch:bd}(I:Inv X pins σ H s)(J:s'.os=s.os)(u:Un (frs X.stack) ch H H' s.heap s'.heap)(hok:qN X.prog X.w H' s'.heap)(hg:AllBare s'.gens)
  (j:∀b∈ch,(b∈X.ex\/X.s₀.heap.objs.size<=b)/\b≠X.env.locals/\(∀x c,X.env.cells.lookup x=some c->c≠b)/\∀p∈X.pn++pins,p.1≠b):Inv X pins σ H' s':=by
 obtain⟨h',g',d',t',o'⟩:=s';have e:o'=s.os:=J;subst e;exact I.call (g':=g') (t':=t') (d':=d') u hok hg j
end
meta abbrev XK:=aa->Option aq->Hp->Prop
meta abbrev St:=List<|Option V
meta abbrev VK:=V->Hp->Prop
meta abbrev TE:=St->Hp->VK->Prop
meta abbrev TT:=St->Hp->(Bool->Hp->Prop)->Prop
meta abbrev TA:=St->Hp->(List V->Hp->Prop)->Prop
structure Ends where
 nx:St->Hp->Prop
 rt:VK
 bk:St->Hp->Prop:=λ_ _=>False
 ct:St->Hp->Prop:=λ_ _=>False
meta abbrev TS:=Ends->St->Hp->Prop
abbrev EP (X:Cx)(pins:bt)(σ:St)(Q:VK)(u:aa)(s':aE):Prop:=∃v H',Inv X pins σ H' s'/\RelV v u/\Q v H'
abbrev TP (X:Cx)(pins:bt)(σ:St)(Q:Bool->Hp->Prop)(b:Bool)(s':aE):Prop:=∃H',Inv X pins σ H' s'/\Q b H'
abbrev AP (X:Cx)(pins:bt)(σ:St)(Q:List V->Hp->Prop)(us:ba)(s':aE):Prop:=∃d H',Inv X pins σ H' s'/\Vals d us/\Q d H'
abbrev SP (X:Cx)(pins:bt)(D:Ends)(f:Flow)(s':aE):Prop:=
 match f with
 | .next=>∃d H',Inv X pins d H' s'/\D.nx d H'
 | .brk=>∃d H',Inv X pins d H' s'/\D.bk d H'
 | .cont=>∃d H',Inv X pins d H' s'/\D.ct d H'
 | .ret u=>∃v d H',Inv X pins d H' s'/\RelV v u/\D.rt v H'
abbrev PE (X:Cx)(e:aF)(t:TE):Prop:=
 ∀(pins:bt) (s:aE) (σ:St) (H:Hp) (Q:VK),Inv X pins σ H s->t σ H Q->wpAny (model X.prog X.w) X.A (eval e X.env) (EP X pins σ Q) X.xe s
abbrev PT (X:Cx)(e:aF)(t:TT):Prop:=
 ∀(pins:bt) (s:aE) (σ:St) (H:Hp) (Q:Bool->Hp->Prop),Inv X pins σ H s->t σ H Q->wpAny (model X.prog X.w) X.A (isTrue e X.env<|eval e X.env) (TP X pins σ Q) X.xe s
abbrev PW (X:Cx)(e:aF)(t:TT):Prop:=
 ∀(d:Sem aa) (pins:bt) (s:aE) (σ:St) (H:Hp) (Q:Bool->Hp->Prop),Inv X pins σ H s->t σ H Q->wpAny (model X.prog X.w) X.A (isTrue e X.env d) (TP X pins σ Q) X.xe s
abbrev PA (X:Cx)(es:List aF)(t:TA):Prop:=
 ∀(pos:Pos) (pins:bt) (s:aE) (σ:St) (H:Hp) (Q:List V->Hp->Prop),Inv X pins σ H s->t σ H Q->wpAny (model X.prog X.w) X.A (spliced<|backTo pos<|starEach es X.env) (AP X pins σ Q) X.xe s
abbrev PS (X:Cx)(st:aG)(t:TS):Prop:=
 ∀(pins:bt) (s:aE) (σ:St) (H:Hp) (D:Ends),Inv X pins σ H s->t D σ H->wpAny (model X.prog X.w) X.A (exec st X.env) (SP X pins D) X.xe s
abbrev xA (X:Cx)(st:List aG)(t:TS):Prop:=
 ∀(pins:bt) (s:aE) (σ:St) (H:Hp) (D:Ends),Inv X pins σ H s->t D σ H->wpAny (model X.prog X.w) X.A (execs st X.env) (SP X pins D) X.xe s
def ju{α:Type}{t:Sem α}{Q Q':α->aE->Prop}{A:aC}{E:aa->aE->Prop}(h:wpAny M A t Q E s)(j:∀a s,Q a s->Q' a s):wpAny M A t Q' E s:=c9 h j λ_ _ x=>x
section
variable {X:Cx}
abbrev Pp (i:Nat):TE:=λσ H Q=>∃v,σ[i]?=some (some v)/\Q v H
abbrev tC (v:V):TE:=λ_ H Q=>Q v H
def ET{i:Nat}{x:Str}(L:X.N[i]?=some x)(hv:Ot X.env.scope x)(hd:(x == ("__debug__" : Str))=false<|>δ)(J:(x == ("__classdict__" : Str))=false<|>δ):PE X (.Name x pos) (Pp i):=by
 w_up;obtain⟨v,e,h⟩:=h;obtain⟨m,hn,j⟩:=I.loc;obtain⟨u,r,l⟩:=j i x v L e hv;have f:EP X pins σ Q u s:=⟨v,H,I,r,h⟩
 rcases l with⟨g,hm⟩|⟨g,c,hc,d⟩
 ·exact wpAny_Name (wpAny_loadName_local I.ok.kind g hn hm f) hd
 ·rcases g with g|g
  ·exact wpAny_Name (wpAny_loadName_cell I.ok.kind g hc d f) hd
  ·exact wpAny_Name (wpAny_loadName_free I.ok.kind g hc d f J) hd
def Au{i j pos}:PE X (.Constant (.int i) j pos) (tC<|.int i):=λ_ _ _ H _ I h=>wpAny_Constant_int ⟨.int i,H,I.tok _,⟨_,rfl⟩,h⟩
def P5{b j pos}:PE X (.Constant (.bool b) j pos) (tC<|.bl b):=λ_ _ _ H _ I h=>Constant_bool ⟨.bl b,H,I,rfl,h⟩
abbrev Gl (X:Cx)(x:Str):Prop:=X.env.kindOf x=some .globalImplicit
def AH{E:aa->aE->Prop}{H:Hp}{x:Str}{Q:aa->aE->Prop}(I:Inv X pins σ H s)(hg:Gl X x)(hm:X.mg x=some u)(h:Q u s)
  (hd:(x == ("__debug__" : Str))=false<|>δ):wpAny (model X.prog X.w) X.A (eval (.Name x pos) X.env) Q E s:=
 Calls.Name_function_global I.ok.kind hg (Calls.loadGlobal_global (by rw[I.ok.glob];exact I.mod.glob.keeps I.bk) hm h) hd
def pF{E:aa->aE->Prop}{H:Hp}{x:Str}{Q:aa->aE->Prop}(I:Inv X pins σ H s)(hg:Gl X x)(hm:X.mg x=none)(hv:bootBuiltins x=some u)(h:Q u s)
  (hn:x ≠ "__name__"<|>δ) (hd:(x == ("__debug__" : Str))=false<|>δ):wpAny (model X.prog X.w) X.A (eval (.Name x pos) X.env) Q E s:=by
 obtain⟨d,h1,h2⟩:=I.mod.blt;exact Calls.Name_function_global I.ok.kind hg (Calls.loadGlobal_builtin (by rw[I.ok.glob];exact I.mod.glob.keeps I.bk) hm (by rw[I.ok.blt];exact h1.keeps I.bk) ((h2 x hn).trans hv) h) hd
def Jw{x:Str}{v:V}(hg:Gl X x)(hm:X.mg x=some u)(r:RelV v u)(hd:(x == ("__debug__" : Str))=false<|>δ):PE X (.Name x pos) (tC v):=
 λ_ _ _ H _ I h=>AH I hg hm ⟨v,H,I,r,h⟩ hd
def KQ{x:Str}{v:V}(hg:Gl X x)(hm:X.mg x=none)(hv:bootBuiltins x=some u)(r:RelV v u)(hn:x ≠ "__name__"<|>δ)(hd:(x == ("__debug__" : Str))=false<|>δ):PE X (.Name x pos) (tC v):=
 λ_ _ _ H _ I h=>pF I hg hm hv ⟨v,H,I,r,h⟩ hn hd
variable {a b:aF}{ta tb:TE}{pos:Pos}
variable {tA tB':TT}{rest:List aF}
abbrev OH (t u:TT):TT:=λσ H Q=>t σ H λc H1=>if c=true then u σ H1 Q else Q false H1
abbrev Sd (t u:TT):TT:=λσ H Q=>t σ H λc H1=>if c=true then Q true H1 else u σ H1 Q
abbrev Q5 (t:TT):TT:=λσ H Q=>t σ H λc H1=>Q (!c) H1
def J7(j:PT X a tA):PW X (.BoolOp .And [a] pos) tA:=by
 intro wh pins s σ H Q I h;refine isTrue_and (ju (j pins s σ H Q I h) λc d e=>?_)
 cases c with
 | true=>exact isTrue_and_nil e
 | false=>exact e
def My(j:PT X a tA):PW X (.BoolOp .Or [a] pos) tA:=by
 intro wh pins s σ H Q I h;refine isTrue_or (ju (j pins s σ H Q I h) λc d e=>?_)
 cases c with
 | false=>exact isTrue_or_nil e
 | true=>exact e
def N9(j:PT X a tA)(hb:PW X (.BoolOp .And (b::rest) pos) tB'):PW X (.BoolOp .And (a::b::rest) pos) (OH tA tB'):=by
 intro wh pins s σ H Q I h;refine isTrue_and (ju (j pins s σ H _ I h) λc f ⟨H1,I1,d⟩=>?_)
 cases c with
 | true=>exact hb wh pins f σ H1 Q I1 d
 | false=>exact⟨H1,I1,d⟩
def PU(j:PT X a tA)(hb:PW X (.BoolOp .Or (b::rest) pos) tB'):PW X (.BoolOp .Or (a::b::rest) pos) (Sd tA tB'):=by
 intro wh pins s σ H Q I h;refine isTrue_or (ju (j pins s σ H _ I h) λc f ⟨H1,I1,d⟩=>?_)
 cases c with
 | true=>exact⟨H1,I1,d⟩
 | false=>exact hb wh pins f σ H1 Q I1 d
def MR(j:PT X a tA):PT X (.UnaryOp .Not a pos) (Q5 tA):=by
 w_up;exact isTrue_not<|j pins s σ H (λc H1=>Q (!c) H1) I h
abbrev Qa (ta tb:TE):TE:=λσ H Q=>ta σ H λx H1=>∃c,x=.bl c/\if c=true then tb σ H1 Q else Q (.bl false) H1
abbrev Qc (ta:TE):TE:=λσ H Q=>ta σ H λx H1=>∃c,x=.bl c/\Q (.bl<|!c) H1
def Nm{op}{t:TE}(h:PE X a t):PE X (.BoolOp op [a] pos) t:=λpins s σ H Q I hw=>BoolOp_one<|h pins s σ H Q I hw
def Oj(j:PE X a ta)(hb:PE X (.BoolOp .And (b::rest) pos) tb):PE X (.BoolOp .And (a::b::rest) pos) (Qa ta tb):=by
 w_up;refine BoolOp_and<|ju (j pins s σ H _ I h) λv f ⟨x,H1,I1,r1,d⟩=>?_;obtain⟨c,rfl,d⟩:=d
 cases r1
 refine dB ?_
 cases c with
 | true=>exact hb pins f σ H1 Q I1 d
 | false=>exact⟨.bl false,H1,I1,rfl,d⟩
def MK(j:PE X a ta):PE X (.UnaryOp .Not a pos) (Qc ta):=by
 w_up;refine UnaryOp_<|ju (j pins s σ H _ I h) λv f ⟨x,H1,I1,r1,d⟩=>?_;obtain⟨c,rfl,d⟩:=d
 cases r1
 exact not_of<|dB ⟨.bl<|!c,H1,I1,rfl,d⟩
end
abbrev jR (K:aA)(H:Hp)(a:aq)(xs:List V):Prop:=
 Rd H a (.lst xs) \/
  ∃(o:Obj) (d:Array aa) (n:Nat),K.lookup a=some o/\o.cls=.type "list" /\ o.dict=none/\o.data=.seq d n/\d.size<=sizeLine/\Vals xs d.toList
abbrev lW (K:aA)(H:Hp)(a:aq)(xs:List V):Prop:=
 Rd H a (.tup xs) \/
  ∃(o:Obj) (d:Array aa) (n:Nat),K.lookup a=some o/\o.cls=.type "tuple" /\ o.dict=none/\o.data=.seq d n/\d.size<=sizeLine/\Vals xs d.toList
abbrev QN:aa->Option V
 | .none=>some .non
 | .bool b=>some (.bl b)
 | .int i _=>some (.int i)
 | .str x _=>some (.str x)
 | .bytes b _=>some (.byt b)
 | .float b _=>some (.flt b)
 | .ref a=>some (.ref a)
 | .type n=>some (.ty n)
 | _=>none
def RelV.abs{x:V}(r:RelV x u):QN u=some x:=by
 cases x with
 | non=>cases r;rfl
 | bl _=>cases r;rfl
 | int _=>obtain⟨t,rfl⟩:=r;rfl
 | str _=>obtain⟨t,rfl⟩:=r;rfl
 | byt _=>obtain⟨t,rfl⟩:=r;rfl
 | flt _=>obtain⟨t,rfl⟩:=r;rfl
 | ref _=>cases r;rfl
 | ty _=>cases r;rfl
def RelV.inj{x:V}(r:RelV x u)(q:RelV y u):x=y:=aV<|r.abs.symm.trans q.abs
theorem Vals.inj:∀{xs ys:List V}{us:ba},Vals xs us->Vals ys us->xs=ys
 | _,_,_,.nil,.nil=>rfl
 | _,_,_,.cons r t,.cons f d=>by rw[r.inj f,Vals.inj t d]
section
variable {X:Cx}{pins:bt}{σ:St}{H:Hp}{s:aE}{a:aq}{xs ys:List V}
def jR.of{K:aA}(h:H a=some (.lst xs)):jR K H a xs:=.inl<|.inl h
def lW.of{K:aA}(h:H a=some (.tup xs)):lW K H a xs:=.inl<|.inl h
def Inv.list(I:Inv X pins σ H s)(h:jR X.K H a xs):∃its:ba,Vals xs its/\PlainL s.heap a its.toArray/\xs.length<=sizeLine:=by
 rcases h with h|⟨o,its,n,d,hc,hd,hs,f,r⟩
 ·obtain⟨z,its,n,r,e⟩:=h.ok I.hok;exact⟨its,r,⟨_,n,e,rfl,rfl,rfl⟩,z⟩
 ·refine⟨its.toList,r,⟨o,n,I.xR a o d,hc,hd,by simpa using hs⟩,?_⟩;have e:=r.length;dsimp[bZ]at e
  lia
def Inv.tuple(I:Inv X pins σ H s)(h:lW X.K H a xs):∃its:ba,Vals xs its/\IsTup s.heap a its.toArray/\xs.length<=sizeLine:=by
 rcases h with h|⟨o,its,n,d,hc,_,hs,f,r⟩
 ·obtain⟨z,its,r,p⟩:=h.ok I.hok;exact⟨its,r,p.tup,z⟩
 ·refine⟨its.toList,r,⟨o,I.xR a o d,hc,n,by simpa using hs⟩,?_⟩;have e:=r.length;dsimp[bZ]at e
  lia
def Inv.rH(I:Inv X pins σ H s)(h:jR X.K H a xs)(h':jR X.K H a ys):xs=ys:=by
 obtain⟨g,r,⟨o,n,e,_,_,d⟩,_⟩:=I.list h;obtain⟨f,m,⟨o',t,j,_,_,k⟩,_⟩:=I.list h';rw[e]at j;cases j;rw[d]at k
 injection k with d1 _
 have:g=f:=by simpa using cj Array.toList d1
 subst this;exact r.inj m
def Inv.vR(I:Inv X pins σ H s)(h:lW X.K H a xs)(h':lW X.K H a ys):xs=ys:=by
 obtain⟨g,r,⟨o,e,_,n,d⟩,_⟩:=I.tuple h;obtain⟨f,m,⟨o',j,_,t,k⟩,_⟩:=I.tuple h';rw[e]at j;cases j;rw[d]at k
 injection k with d1 _
 have:g=f:=by simpa using cj Array.toList d1
 subst this;exact r.inj m
end
meta abbrev Cx.vC (X:Cx)(E:aa->aE->Prop):Cx:={ X with xe:=E }
meta abbrev Cx.Qs (X:Cx):Cx:=X.vC λ_ _=>False
def Cx.Ok.vC{X:Cx}(ok:X.Ok)(E:aa->aE->Prop):(X.vC E).Ok:=
 ⟨ok.mod,ok.kind,ok.glob,ok.blt,ok.above,ok.inj,ok.has,ok.cab,ok.hd,ok.frames,ok.stk,ok.exf,ok.bs,ok.bsz,ok.noex,ok.exfs,ok.u7,ok.frf⟩
def Cx.Ok.pB{X:Cx}{E:aa->aE->Prop}(ok:(X.vC E).Ok):X.Ok:=
 ⟨ok.mod,ok.kind,ok.glob,ok.blt,ok.above,ok.inj,ok.has,ok.cab,ok.hd,ok.frames,ok.stk,ok.exf,ok.bs,ok.bsz,ok.noex,ok.exfs,ok.u7,ok.frf⟩
section
variable {X:Cx}{pins:bt}{σ:St}{H:Hp}{s:aE}{E:aa->aE->Prop}
def Inv.vC(I:Inv X pins σ H s)(E:aa->aE->Prop):Inv (X.vC E) pins σ H s:=⟨I.ok.vC E,I.os,I.bare,I.base,I.loc,I.cell,I.free,I.freeC,I.pin,I.hok,I.len⟩
def Inv.pB(I:Inv (X.vC E) pins σ H s):Inv X pins σ H s:=⟨I.ok.pB,I.os,I.bare,I.base,I.loc,I.cell,I.free,I.freeC,I.pin,I.hok,I.len⟩
def SP.pB{f:Flow}(h:SP (X.vC E) pins D f s'):SP X pins D f s':=by
 cases f with
 | next=>obtain⟨d,H',I,q⟩:=h;exact⟨d,H',I.pB,q⟩
 | brk=>obtain⟨d,H',I,q⟩:=h;exact⟨d,H',I.pB,q⟩
 | cont=>obtain⟨d,H',I,q⟩:=h;exact⟨d,H',I.pB,q⟩
 | ret u=>obtain⟨v,d,H',I,r,q⟩:=h;exact⟨v,d,H',I.pB,r,q⟩
def xA.Qs{st:List aG}{t:TS}(h:xA X.Qs st t):xA X st t:=λpins s σ H D I hw=>
 c9 (h pins s σ H D (I.vC _) hw) (λ_ _ q=>q.pB) λ_ _ z=>False.elim z
end
section
variable {X:Cx}{st:aG}{rest:List aG}{t u:TS}{e:aF}{te:TE}{pos:Pos}
abbrev OI:TS:=λD σ H=>D.nx σ H
abbrev PZ (t u:TS):TS:=λD σ H=>t { D with nx:=u D } σ H
def Jz:xA X [] OI:=λ_ _ σ H _ I h=>gg ⟨σ,H,I,h⟩
def F5(h1:PS X st t)(h2:xA X rest u):xA X (st::rest) (PZ t u):=by
 ksr_p;refine wpAny_execs_cons (ju (h1 pins s σ H { D with nx:=u D } I h) λf j q=>?_)
 cases f with
 | next=>
  obtain⟨d,H',g,q⟩:=q;exact h2 pins j d H' D g q
 | ret v=>exact q
 | brk=>exact q
 | cont=>exact q
def JS(h1:PS X st t):xA X [st] t:=by
 ksr_p;refine wpAny_execs_cons (ju (h1 pins s σ H D I h) λf d q=>?_)
 cases f with
 | next=>exact gg q
 | ret v=>exact q
 | brk=>exact q
 | cont=>exact q
def Inv.quiet{H:Hp}(I:Inv X pins σ H s):interactive X.env=false:=by simp[interactive,I.ok.kind]
abbrev OE (te:TE):TS:=λD σ H=>te σ H λ_ H1=>D.nx σ H1
def Kw(j:PE X e te)(hs:swapsWith e none pos.line X.env=pure false<|>ε):PS X (.Expr e pos) (OE te):=by
 ksr_p;exact wpAny_Expr_any (ju (j pins s σ H _ I h) λv f ⟨x,H1,I1,r1,d⟩=>⟨σ,H1,I1,d⟩) I.quiet hs
abbrev QY (te:TE):TS:=λD σ H=>te σ H D.rt
def Nv(j:PE X e te):PS X (.Return (some e) pos) (QY te):=by
 ksr_p;exact wpAny_Return_some<|ju (j pins s σ H _ I h) λv f ⟨x,H1,I1,r1,d⟩=>⟨x,σ,H1,I1,r1,d⟩
abbrev QJ (c:TT)(t u:TS):TS:=λD σ H=>c σ H λb H1=>if b=true then t D σ H1 else u D σ H1
def OG{a:List aG}{tc:TT}(hc:PT X c tc)(j:xA X a t)(hb:xA X b u):PS X (.If c a b pos) (QJ tc t u):=by
 ksr_p;refine wpAny_If (ju (hc pins s σ H _ I h) λd f ⟨H1,I1,g⟩=>?_)
 cases d with
 | true=>exact j pins f σ H1 D I1 g
 | false=>exact hb pins f σ H1 D I1 g
abbrev NW:TS:=λ_ _ _=>False
def F7:PS X st NW:=λ_ _ _ _ _ _ h=>h.elim
end
meta abbrev TG:=V->St->Hp->(St->Hp->Prop)->Prop
meta abbrev K4:=List V->St->Hp->(St->Hp->Prop)->Prop
abbrev PG (X:Cx)(j:aF)(t:TG):Prop:=
 ∀(pins:bt) (s:aE) (σ:St) (H:Hp) (v:V) (u:aa) (Q:St->Hp->Prop),Inv X pins σ H s->RelV v u->t v σ H Q ->
  wpAny (model X.prog X.w) X.A (assign j X.env u) (λ_ s'=>∃d H',Inv X pins d H' s'/\Q d H') X.xe s
abbrev OT (X:Cx)(ts:List aF)(t:K4):Prop:=
 ∀(pins:bt) (s:aE) (σ:St) (H:Hp) (f:List V) (us:ba) (Q:St->Hp->Prop),Inv X pins σ H s->Vals f us->t f σ H Q ->
  wpAny (model X.prog X.w) X.A (assignInOrder ((assignEach ts X.env).map (·.2)) us) (λ_ s'=>∃d H',Inv X pins d H' s'/\Q d H') X.xe s
meta abbrev EN:=V->V->V->Hp->(Hp->Prop)->Prop
abbrev Ez (X:Cx)(t:EN):Prop:=
 ∀(pins:bt) (s:aE) (σ:St) (H:Hp) (o i v:V) (f d u:aa) (Q:Hp->Prop),Inv X pins σ H s->RelV o f->RelV i d->RelV v u->t o i v H Q ->
  wpAny (model X.prog X.w) X.A (setItem f d u) (λ_ s'=>∃H',Inv X pins σ H' s'/\Q H') X.xe s
meta abbrev O_:=V->V->Hp->VK->Prop
abbrev Oo (X:Cx)(j:Operator)(t:O_):Prop:=
 ∀(pins:bt) (s:aE) (σ:St) (H:Hp) (x y:V) (v u:aa) (Q:VK),Inv X pins σ H s->RelV x v->RelV y u->t x y H Q ->
  wpAny (model X.prog X.w) X.A (inplaceOp j v u) (EP X pins σ Q) X.xe s
section
variable {X:Cx}{pos:Pos}
abbrev BE (i:Nat):TG:=λv σ H Q=>Q (σ.set i<|some v) H
def xJ{i:Nat}{x:Str}(j:X.N.Nodup)(hi:X.N[i]?=some x)(hx:Loc X.env.scope x)(hf:X.fn x=true\/X.env.scope.names.lookup x=some .local<|>γ):PG X (.Name x pos) (BE i):=by
 intro pins s σ H v u Q I r h;exact wpAny_assign_Name<|vg I j hi hx r (λs' d=>⟨_,H,d,h⟩) hf
abbrev QK:K4:=λd σ H Q=>d=[]/\Q σ H
abbrev Qo (t:TG)(u:K4):K4:=λf σ H Q=>∃v r,f=v::r/\t v σ H λd H'=>u r d H' Q
def KI:OT X [] QK:=by
 intro pins s σ H d us Q I r h;obtain⟨e,h⟩:=h;subst e
 cases r
 exact assignInOrder_nil ⟨σ,H,I,h⟩
def EF{t:TG}{u:K4}(h1:PG X e t)(h2:OT X es u)
  (hs:(assignEach (e::es) X.env).map (·.2)=assign e X.env::(assignEach es X.env).map (·.2)<|>ε):OT X (e::es) (Qo t u):=by
 intro pins s σ H k us Q I r h;obtain⟨v,m,e1,h⟩:=h;subst e1
 cases r with
 | cons r j=>
  rw[hs];refine assignInOrder_cons<|ju (h1 pins s σ H _ _ _ I r h) λ_ f ⟨d,H1,I1,g⟩=>?_;exact h2 pins f d H1 _ _ Q I1 j g
abbrev Rx (K:aA)(n:Nat)(t:K4):TG:=λv σ H Q=>∃a xs,v=.ref a/\lW K H a xs/\xs.length=n/\t xs σ H Q
def Ny{k:Nat}{t:K4}{n:Nat}(hc:X.calm=true)(h:OT X es t)
  (hn:(assignEach es X.env).length=n<|>ε) (J:(assignEach es X.env).findIdx? (·.1)=none<|>ε):PG X (.Tuple es k pos) (Rx X.K n t):=by
 intro pins s σ H v u Q I r hw;obtain⟨a,xs,e1,f,g,hw⟩:=hw;subst e1
 cases r
 obtain⟨j,d,m,z⟩:=I.tuple f;refine assign_Tuple_tuple (I.ok.hd hc) m (by simp[hn,<- g,d.length]) J λh' hx=>?_;have I1:Inv X pins σ H { s with heap:=h' }:=I.kept (t':=s.toks) λb o e=>hx b o (bB<|aZ e) e;exact h pins _ σ H xs _ Q I1 (by simpa using d) hw
abbrev QS (to j:TE)(t:EN):TG:=λv σ H Q=>to σ H λo H1=>j σ H1 λi H2=>t o i v H2 λd=>Q σ d
def FA{to J:TE}{t:EN}(L:PE X o to)(hi:PE X i J)(hs:Ez X t)
  (M:(∀v,assign (.Subscript o i pos) X.env v=(do
   let ov <- holding [v] (eval o X.env)
   let iv <- holding [v,ov] (eval i X.env)
   standAt pos
   holding [v,ov,iv] (setItem ov iv v)
   release [v,ov,iv] []))<|>ζ):PG X (.Subscript o i pos) (QS to J t):=by
 intro pins s σ H v u Q I r h;rw[M];refine aJ<|cJ<|ju (L pins s σ H _ I h) λov g ⟨x,H1,I1,r1,k⟩=>?_;refine aJ<|cJ<|ju (hi pins g σ H1 _ I1 k) λiv m ⟨y,H2,d,r2,f⟩=>?_;refine aJ<|bX<|aJ<|cJ<|ju (hs pins m σ H2 x y v ov iv u _ d r1 r2 r f) λ_ B ⟨z,I3,j⟩=>?_;exact wpAny_release ⟨σ,z,I3,j⟩
abbrev ER (te:TE)(g:TG):TS:=λD σ H=>te σ H λx H1=>g x σ H1 D.nx
def Mr{tg:aF}{te:TE}{g:TG}(J:PE X e te)(hg:PG X tg g)(hs:swapsWithSole [tg] e pos.line X.env=pure false<|>ε)(hw:swappedStores [tg] e X.env=pure none<|>ε)
  (h1:(assignEach [tg] X.env).map (·.2)=[assign tg X.env]<|>ε):PS X (.Assign [tg] e pos) (ER te g):=by
 ksr_p;refine wpAny_Assign_stores (ju (J pins s σ H _ I h) λv d ⟨x,H1,I1,r1,f⟩=>?_) hs hw;rw[h1];exact ju (hg pins d σ H1 x v _ I1 r1 f) λ_ j q=>q
def Ol{i:Nat}{x:Str}{te:TE}(J:X.N.Nodup)(hi:X.N[i]?=some x)(hx:Loc X.env.scope x)(L:PE X e te)(hs:(swapsWith e (some<|.Name x pos') pos.line X.env=pure false)<|>ε)(hf:X.fn x=true\/X.env.scope.names.lookup x=some .local<|>γ) :
  PS X (.Assign [.Name x pos'] e pos) (ER te<|BE i):=by
 ksr_p;refine wpAny_Assign_Name (ju (L pins s σ H _ I h) λv j ⟨y,H1,I1,r1,f⟩=>?_) hs;exact vg I1 J hi hx r1 (λg d=>⟨_,H1,d,f⟩) hf
abbrev Rg (i:Nat)(te:TE)(j:O_):TS:=λD σ H=>∃x,σ[i]?=some (some x)/\te σ H λy H1=>j x y H1 λz H2=>D.nx (σ.set i<|some z) H2
def Of{i:Nat}{x:Str}{te:TE}{U:O_}(Z:X.N.Nodup)(hi:X.N[i]?=some x)(hx:Loc X.env.scope x)(he:PE X e te)(ho:Oo X op U)(hf:X.fn x=true\/X.env.scope.names.lookup x=some .local<|>γ) :
  PS X (.AugAssign (.Name x pos') op e pos) (Rg i te U):=by
 ksr_p;obtain⟨v,e1,h⟩:=h;obtain⟨m,hn,J⟩:=I.loc;have t:Ot X.env.scope x:=by rcases hx with k|k;exact .inl k;exact .inr (.inl k)
 obtain⟨u,r,l⟩:=J i x v hi e1 t;refine wpAny_AugAssign_Name ?_;have B:wpAny (model X.prog X.w) X.A (eval e X.env) (λw j=>wpAny (model X.prog X.w) X.A (inplaceOp op u w) (λr g=>wpAny (model X.prog X.w) X.A (storeName X.env x r) (λ_=>SP X pins D .next) X.xe g) X.xe j) X.xe s:=by
  refine ju (he pins s σ H _ I h) λw G ⟨y,H1,I1,r1,K⟩=>?_;refine ju (ho pins G σ H1 v y u w _ I1 r r1 K) λz M ⟨O,H2,C,r2,F⟩=>?_;exact vg C Z hi hx r2 (λL I3=>⟨_,H2,I3,F⟩) hf
 rcases l with⟨d,hm⟩|⟨d,c,hc,f⟩
 ·exact wpAny_loadName_local I.ok.kind d hn hm B
 ·rcases d with d|d
  ·exact wpAny_loadName_cell I.ok.kind d hc f B
  ·rcases hx with k|k
   ·have:X.env.scope.names.lookup x=some .free:=d;rw[k]at this;cases this
   ·have:X.env.scope.names.lookup x=some .free:=d;rw[k]at this;cases this
abbrev SS (f:Int->Int->Int):O_:=λx y H Q=>∃i j,x=.int i/\y=.int j/\Q (.int<|f i j) H
def MJ:Oo X .Add (SS λi j=>i+j):=by
 intro pins s σ H x y v u Q I r1 r2 h;obtain⟨i,j,e1,e2,q⟩:=h;subst e1;subst e2;obtain⟨t,rfl⟩:=r1;obtain⟨d,rfl⟩:=r2;exact iadd_int ⟨.int _,H,I.tok _,⟨_,rfl⟩,q⟩
def N2:Oo X .Sub (SS λi j=>i-j):=by
 intro pins s σ H x y v u Q I r1 r2 h;obtain⟨i,j,e1,e2,q⟩:=h;subst e1;subst e2;obtain⟨t,rfl⟩:=r1;obtain⟨d,rfl⟩:=r2;exact isub_int ⟨.int _,H,I.tok _,⟨_,rfl⟩,q⟩
end
section
variable {X:Cx}{pos:Pos}
abbrev GY (c:TT)(tb:TS):TS:=λD σ H=>∃W:Nat->St->Hp->Prop,(∃m,W m σ H)/\∀m σ H,W m σ H ->
 c σ H λb H1=>if b=true then ∃N:St->Hp->Prop,(∀d H',N d H'->∃m',m'<m/\W m' d H')/\tb { D with nx:=N,ct:=N,bk:=D.nx } σ H1 else D.nx σ H1
def EB{tc:TT}{tb:TS}(hp:PassesOwn (model X.prog X.w) X.A X.env X.xe)(hc:PT X c tc)(hb:xA X body tb):PS X (.While c body [] pos) (GY tc tb):=by
 ksr_p;obtain⟨W,⟨L,O⟩,j⟩:=h;refine wpAny_While<|codeAny_whileLoop (λn s'=>∃k H',Inv X pins k H' s'/\W n k H') ?_ L ⟨σ,H,I,O⟩;rintro n M ⟨g,H1,I1,J⟩;refine dm hp (ju (hc pins M g H1 _ I1<|j n g H1 J) λb K ⟨H2,F,t⟩=>?_)
 cases b with
 | true=>
  obtain⟨N,G,t⟩:=t;rw[aR rfl];refine dm hp (ju (hb pins K g H2 _ F t) λf P z=>?_)
  cases f with
  | next=>
   obtain⟨d,m,I3,B⟩:=z;obtain⟨m',hm,C⟩:=G d m B;exact⟨m',hm,d,m,I3,C⟩
  | cont=>
   obtain⟨d,m,I3,B⟩:=z;obtain⟨m',hm,C⟩:=G d m B;exact⟨m',hm,d,m,I3,C⟩
  | brk=>exact z
  | ret v=>exact z
 | false=>
  rw[aU bf];exact gg ⟨g,H2,F,t⟩
end
structure It where
 go:Nat->Hp->Prop
 yld:Nat->Hp->V->Hp->Prop
 stop:Nat->Hp->Prop
abbrev mX (X:Cx)(pins:bt)(H:Hp)(b:aq):Prop:=
 H b=none/\b≠X.env.locals/\b∉X.fs/\(b∈X.ex\/X.s₀.heap.objs.size<=b)/\(∀x c,X.env.cells.lookup x=some c->c≠b)/\∀p∈X.pn++pins,p.1≠b
def Inv.uN{H H':Hp}{s:aE}(I:Inv X pins σ H s)(hb:s.heap.objs.size<=b)(hn:H' b=none):mX X pins H' b:=by
 refine⟨hn,gW<|bM I.lt hb,I.RY hb,.inr<|bH I.sz hb,λx c e z=>?_,λp hp z=>?_⟩
 ·obtain⟨v,q⟩:=I.cell x c e;exact absurd (bM q.lt<|by rw[z];exact hb) (eZ _)
 ·exact absurd (bM (aZ (I.pin p hp).1)<|by rw[z];exact hb)<|eZ _
structure Turn (P:ah)(w:af)(K:aA)(tg:aF)(J:It)(fp:bd)(it:aq)(tn:Nat->au->Prop):Prop where
 mem:it∈fp
 obj:∀i h,tn i h->∀b∈fp,∃o,h.get? b=some o/\∀v,o.data≠.cell v
 keep:∀i h h',tn i h->(∀b∈fp,∀o,h.get? b=some o->h'.get? b=some o)->tn i h'
 item:∀(X:Cx),X.prog=P->X.w=w->X.K=K->X.calm=true->∀(i:Nat) (pins:bt) (s:aE) (σ:St) (H:Hp) (E:aa->aE->Prop),Inv X pins σ H s->(∀b∈fp,mX X pins H b)->tn i s.heap->J.go i H ->
  wpAny (model P w) X.A (pyNext<|.ref it) (λr s1=>∃u,r=some u /\
   wpAny (model P w) X.A (letOwnedTupleGo tg (.ref it) u) (λ_ s2=>∃x H',Inv X pins σ H' s2/\RelV x u/\J.yld i H x H'/\tn (i+1) s2.heap/\∀b∈fp,H' b=none) E s1) E s
 done:∀(X:Cx),X.prog=P->X.w=w->X.K=K->X.calm=true->∀(i:Nat) (pins:bt) (s:aE) (σ:St) (H:Hp) (E:aa->aE->Prop),Inv X pins σ H s->(∀b∈fp,mX X pins H b)->tn i s.heap->J.stop i H ->
  wpAny (model P w) X.A (pyNext<|.ref it) (λr s1=>r=none/\Inv X pins σ H s1) E s
 self:∀(A:aC) (i:Nat) (s:aE) (Q:aa->aE->Prop) (E:aa->aE->Prop),tn i s.heap->Q (.ref it) s->wpAny (model P w) A (pyIter<|.ref it) Q E s
meta abbrev TI:=St->Hp->(It->Hp->Prop)->Prop
abbrev Rr (X:Cx)(pins:bt)(σ:St)(tg:aF)(R:It->Hp->Prop)(j:aa)(L:aE):Prop:=
 ∃(it:aq) (fp:bd) (d:Nat->au->Prop) (J:It) (H':Hp),j=.ref it/\Inv X pins σ H' L/\Turn X.prog X.w X.K tg J fp it d/\d 0 L.heap/\(∀b∈fp,mX X pins H' b)/\R J H'
abbrev PI (X:Cx)(tg iter:aF)(j:TI):Prop:=
 ∀(pins:bt) (s:aE) (σ:St) (H:Hp) (R:It->Hp->Prop),Inv X pins σ H s->j σ H R ->
  wpAny (model X.prog X.w) X.A (eval iter X.env) (λv d=>wpAny (model X.prog X.w) X.A (pyIter v) (Rr X pins σ tg R) X.xe d) X.xe s
def wo{A:aC}{E:aa->aE->Prop}{s:aE}{o:Obj}{n:String}{Q:Unit->aE->Prop}(J:s.heap.get? it=some o)(hc:o.cls=.type n)(hd:o.data=.fields vs)
  (hn:["enumerate", "zip", "dict_itemiterator", "dict_reverseitemiterator", "odict_iterator", "itertools.zip_longest", "itertools.pairwise"].contains n=false) (j:Q Unit.unit s):wpAny M A (letOwnedTupleGo tg (.ref it) u) Q E s:=by
 unfold letOwnedTupleGo
 cases tg<;>first
  | exact aO j
  | (cases u<;>first
    | exact aO j
    | (refine aJ (wpAny_load J ?_)
       rw[hc,hd];show wpAny M A (if (["enumerate", "zip", "dict_itemiterator", "dict_reverseitemiterator", "odict_iterator", "itertools.zip_longest", "itertools.pairwise"].contains n && vs[0]? == some (rawInt _))=true then _ else _) Q E s;rw[aU<|by intro h;rw[hn,Bool.false_and]at h;cases h];exact aO j))
abbrev QE (K:aA)(a:aq):It:=
 ⟨λi H=>∃xs x,jR K H a xs/\xs[i]?=some x,λi H x H'=>H'=H/\∀xs,jR K H a xs->xs[i]?=some x,λi H=>∃xs,jR K H a xs/\xs.length<=i⟩
abbrev Om (K:aA)(a:aq):It:=
 ⟨λi H=>∃xs x,lW K H a xs/\xs[i]?=some x,λi H x H'=>H'=H/\∀xs,lW K H a xs->xs[i]?=some x,λi H=>∃xs,lW K H a xs/\xs.length<=i⟩
abbrev Qj (lo:Int)(n:Nat):It:=⟨λi _=>i<n,λi H x H'=>H'=H/\x=.int (lo+i),λi _=>n<=i⟩
def DR{P:ah}{w:af}{K:aA}(a it:aq):Turn P w K tg (QE K a) [it] it (λi h=>h.IsListIter it a i) where
 mem:=by simp
 obj:=λi h st b hb=>by
  have e:b=it:=by simpa using hb
  subst e;obtain⟨o,e,c,d⟩:=st;exact⟨o,e,λv z=>by rw[d]at z;cases z⟩
 keep:=λi h h' st k=>st.at λo e=>k it (by simp) o e
 item:=by
  room;subst hP hw hK;obtain⟨xs,x,g,hx⟩:=hg;obtain⟨j,m,p,C⟩:=I.list g;obtain⟨u,t,B⟩:=m.get hx;fin2;refine wpAny_pyNext_list_item st p.isList (x:=u) (by simpa using t) λh' f F=>?_;have I1:Inv X pins σ H { s with heap:=h' }:=I.turned (t':=s.toks) (λb o hb e=>(F.2 b hb).trans e) f0 f1 f3 f4 f5;obtain⟨o,e,c,d⟩:=id f;exact⟨u,rfl,wo (s:={ s with heap:=h' }) e c d ⋯ ⟨x,H,I1,B,⟨rfl,λys hy=>by rw[I.rH hy g];exact hx⟩,f,λb hb=>(hf b hb).1⟩⟩
 done:=by
  room;subst hP hw hK;obtain⟨xs,g,hx⟩:=hg;obtain⟨j,m,p,C⟩:=I.list g;fin2;have J:=m.length;exact wpAny_pyNext_list_end (I.ok.hd hc) st p.isList (by simp;omega) λh' G=>⟨rfl,I.turned (t':=s.toks) (λb o hb e=>G b o hb e) f0 f1 f3 f4 f5⟩
 self:=λ_ _ _ _ _ st h=>wpAny_pyIter_listiter st h
def Ao{P:ah}{w:af}{K:aA}(a it:aq):Turn P w K tg (Om K a) [it] it (λi h=>h.IsTupleIter it a i) where
 mem:=by simp
 obj:=λi h st b hb=>by
  have e:b=it:=by simpa using hb
  subst e;obtain⟨o,e,c,d⟩:=st;exact⟨o,e,λv z=>by rw[d]at z;cases z⟩
 keep:=λi h h' st k=>st.at λo e=>k it (by simp) o e
 item:=by
  room;subst hP hw hK;obtain⟨xs,x,j,hx⟩:=hg;obtain⟨f,m,p,C⟩:=I.tuple j;obtain⟨u,t,B⟩:=m.get hx;fin2;refine wpAny_pyNext_tuple_item st (show s.heap.IsTuple a f.toArray from p) (x:=u) (by simpa using t) λh' g F=>?_;have I1:Inv X pins σ H { s with heap:=h' }:=I.turned (t':=s.toks) (λb o hb e=>(F.2 b hb).trans e) f0 f1 f3 f4 f5;obtain⟨o,e,c,d⟩:=id g;exact⟨u,rfl,wo (s:={ s with heap:=h' }) e c d ⋯ ⟨x,H,I1,B,⟨rfl,λys hy=>by rw[I.vR hy j];exact hx⟩,g,λb hb=>(hf b hb).1⟩⟩
 done:=by
  room;subst hP hw hK;obtain⟨xs,j,hx⟩:=hg;obtain⟨f,m,p,C⟩:=I.tuple j;fin2;have J:=m.length;exact wpAny_pyNext_tuple_end (I.ok.hd hc) st (show s.heap.IsTuple a f.toArray from p) (by simp;omega) λh' G=>⟨rfl,I.turned (t':=s.toks) (λb o hb e=>G b o hb e) f0 f1 f3 f4 f5⟩
 self:=λ_ _ _ _ _ st h=>wpAny_pyIter_tupleiter st h
def zP{P:ah}{w:af}{K:aA}(it:aq)(lo:Int)(n:Nat):Turn P w K tg (Qj lo n) [it] it (λi h=>IsRangeIter h it (lo+(i:Nat) * 1) ((n:Int)-(i:Nat)) 1) where
 mem:=by simp
 obj:=λi h st b hb=>by
  have e:b=it:=by simpa using hb
  subst e;exact⟨_,st,λv z=>by
   have g:Data.fields _=Data.cell v:=z
   cases g⟩
 keep:=λi h h' st k=>k it (by simp) _ st
 item:=by
  room;subst hP hw hK;fin2;have W:=Walks.range (prog:=X.prog) (w:=X.w) (I.ok.hd hc) it lo 1 n;refine W.item i s _ _ hg st λv h' f hv d j=>?_;obtain⟨t,rfl⟩:=hv;have I1:Inv X pins σ H { s with heap:=h',toks:=f }:=I.turned (λb o hb e=>j b o (by simpa using hb) e) f0 f1 f3 f4 f5;refine⟨_,rfl,wo (s:={ s with heap:=h',toks:=f }) (n := "range_iterator") d rfl rfl ⋯ ⟨.int<|lo+i,H,I1,⟨t,?_⟩,⟨rfl,rfl⟩,d,λb hb=>(hf b hb).1⟩⟩;rw[Int.mul_one]
 done:=by
  room;subst hP hw hK;fin2;exact wpAny_pyNext_range_end (I.ok.hd hc) st (by have:n<=i:=hg;lia) λh' m=>⟨rfl,I.turned (t':=s.toks) (λb o hb e=>m b o hb e) f0 f1 f3 f4 f5⟩
 self:=λ_ _ _ _ _ st h=>wpAny_pyIter_rangeiter st h
section
variable {X:Cx}{tg:aF}
abbrev Pj (K:aA)(tl:TE):TI:=λσ H R=>tl σ H λx H1=>∃a,x=.ref a/\(∃xs,jR K H1 a xs)/\R (QE K a) H1
abbrev Q_ (K:aA)(tl:TE):TI:=λσ H R=>tl σ H λx H1=>∃a,x=.ref a/\(∃xs,lW K H1 a xs)/\R (Om K a) H1
def Cm{tl:TE}(J:PE X l tl):PI X tg l (Pj X.K tl):=by
 intro pins s σ H R I h;refine ju (J pins s σ H _ I h) λv d ⟨x,H1,I1,r1,j⟩=>?_;obtain⟨a,e,⟨xs,f⟩,q⟩:=j;subst e
 cases r1
 obtain⟨g,m,p,k⟩:=I1.list f;refine wpAny_pyIter_list p.isList ?_;refine⟨d.heap.objs.size,[d.heap.objs.size],_,_,H1,rfl,I1.kept (t':=d.toks) λb o e=>aQ _ e,DR a _,⟨_,bI _ rfl,rfl,rfl⟩,λb hb=>?_,q⟩;have e:b=d.heap.objs.size:=by simpa using hb
 subst e;cb_eq
def IP{tl:TE}(J:PE X l tl):PI X tg l (Q_ X.K tl):=by
 intro pins s σ H R I h;refine ju (J pins s σ H _ I h) λv d ⟨x,H1,I1,r1,j⟩=>?_;obtain⟨a,e,⟨xs,g⟩,q⟩:=j;subst e
 cases r1
 obtain⟨f,m,p,k⟩:=I1.tuple g;refine wpAny_pyIter_tuple (show d.heap.IsTuple a f.toArray from p) ?_;refine⟨d.heap.objs.size,[d.heap.objs.size],_,_,H1,rfl,I1.kept (t':=d.toks) λb o e=>aQ _ e,Ao a _,⟨_,bI _ rfl,rfl,rfl⟩,λb hb=>?_,q⟩;have e:b=d.heap.objs.size:=by simpa using hb
 subst e;cb_eq
def yN{H:Hp}{s:aE}{R:It->Hp->Prop}{E:aa->aE->Prop}{lo hi:Int}{t v:Tok}{tk:Nat}(I:Inv X pins σ H s)(h1:-(2 ^ 62)<=lo)(h2:lo<2 ^ 62)(j:-(2 ^ 62)<=hi)(J:hi<2 ^ 62)
  (q:R (Qj lo (hi-lo).toNat) H):wpAny (model X.prog X.w) X.A (pyIter<|.ref s.heap.objs.size) (Rr X pins σ tg R) E { s with heap:=s.heap.push { cls:=.type "range",data:=.fields #[.int lo t,.int hi u,.int 1 v]},toks:=tk }:=by
 refine wpAny_pyIter_range (IsRange.new ..) (small_one h1 h2 j J) ?_;have I1:Inv X pins σ H { s with heap:=s.heap.push { cls:=.type "range",data:=.fields #[.int lo t,.int hi u,.int 1 v]},toks:=tk }:=I.kept λb o e=>aQ _ e;refine⟨(s.heap.push { cls:=.type "range",data:=.fields #[.int lo t,.int hi u,.int 1 v]}).objs.size,[(s.heap.push { cls:=.type "range",data:=.fields #[.int lo t,.int hi u,.int 1 v]}).objs.size],_,_,H,rfl,
  I1.kept (t':=tk) λb o e=>aQ _ e,zP _ lo (hi-lo).toNat,?_,λb hb=>?_,q⟩
 ·have e1:lo+((0:Nat):Int) * 1=lo:=by simp
  have e2:(((hi-lo).toNat:Nat):Int)-((0:Nat):Int)=Builtin.Range.rangeSize lo hi 1:=by rw[rangeSize_one];split<;>lia
  skip
  rw[e1,e2];exact bI _ rfl
 ·have e:b=(s.heap.push { cls:=.type "range",data:=.fields #[.int lo t,.int hi u,.int 1 v]}).objs.size:=by simpa using hb
  subst e;cb_eq
abbrev qg (ta:TA):TI:=λσ H R=>ta σ H λd H1=>∃j:Int,d=[.int j]/\-(2 ^ 62)<=j/\j<2 ^ 62/\R (Qj 0 j.toNat) H1
abbrev uO (ta:TA):TI:=λσ H R=>ta σ H λd H1=>∃i j:Int,d=[.int i,.int j]/\(-(2 ^ 62)<=i/\i<2 ^ 62/\-(2 ^ 62)<=j/\j<2 ^ 62)/\R (Qj i (j-i).toNat) H1
def Dp{a:aF}{ta:TA}{p:Pos}(hg:Gl X "range")(hm:X.mg "range" = none)(J:PA X [a] ta)(hs:starEach [a] X.env=[(false,eval a X.env)]<|>ε):PI X tg (.Call (.Name "range" p) [a] [] pos) (qg ta):=by
 intro pins s σ H R I h;refine Call_<|pF I hg hm boot_range<|cG (ju (J pos pins s σ H _ I h) λus m ⟨k,H1,I1,r1,d⟩=>?_) hs rfl;obtain⟨j,e,d,g,q⟩:=d;subst e
 cases r1 with
 | cons r f=>
  cases f
  obtain⟨t,rfl⟩:=r;exact call_range_1<|yN I1 () () d g<|by simpa using q
def DT{a b:aF}{ta:TA}{p:Pos}(hg:Gl X "range")(hm:X.mg "range" = none)(L:PA X [a,b] ta)(hs:starEach [a,b] X.env=[(false,eval a X.env),(false,eval b X.env)]<|>ε)(J:starEach [b] X.env=[(false,eval b X.env)]<|>ε) :
  PI X tg (.Call (.Name "range" p) [a,b] [] pos) (uO ta):=by
 intro pins s σ H R I h;refine Call_ (pF I hg hm boot_range<|cG (ju (L pos pins s σ H _ I h) λus C ⟨B,H1,I1,r1,d⟩=>?_) (by rw[hs,J])<|by rw[J];rfl);obtain⟨i,j,e,⟨d,g,k,z⟩,q⟩:=d;subst e
 cases r1 with
 | cons r f=>
  cases f with
  | cons m f=>
   cases f
   obtain⟨t,rfl⟩:=r;obtain⟨F,rfl⟩:=m;exact call_range_2<|yN I1 d g k z q
abbrev Rn (j:TI)(g:TG)(tb:TS):TS:=λD σ H=>j σ H λJ H1=>∃W:Nat->Nat->St->Hp->Prop,(∃m,W 0 m σ H1)/\∀i m σ H,W i m σ H ->
 (J.stop i H/\D.nx σ H)\/(J.go i H/\∃N:St->Hp->Prop,(∀d H',N d H'->∃m',m'<m/\W (i+1) m' d H')/\∀x H',J.yld i H x H'->g x σ H' λf H2=>tb { D with nx:=N,ct:=N,bk:=D.nx } f H2)
abbrev n5 (fp:bd)(h:au):bt:=fp.filterMap λb=>(h.get? b).map λo=>(b,o)
def jd{fp:bd}{h:au}{b:aq}(hb:b∈fp)(e:h.get? b=some o):(b,o)∈n5 fp h:=List.mem_filterMap.mpr ⟨b,hb,by rw[e];rfl⟩
def DJ{fp:bd}{h:au}{p:aq×Obj}(hp:p∈n5 fp h):p.1∈fp/\h.get? p.1=some p.2:=by
 obtain⟨b,hb,e⟩:=List.mem_filterMap.mp hp
 cases q:h.get? b with
 | none=>rw[q]at e;cases e
 | some o=>
  rw[q]at e;have d:(b,o)=p:=aV e;subst d;exact⟨hb,q⟩
def Inv.pinned{H:Hp}{s:aE}{fp:bd}(I:Inv X pins σ H s)(hf:∀b∈fp,mX X pins H b)(j:∀b∈fp,∃o,s.heap.get? b=some o/\∀v,o.data≠.cell v):Inv X (pins++n5 fp s.heap) σ H s:=
 I.BB λp hp=>(bA.mp hp).elim (λz=>I.pin p<|aT _ z) λz=>by
  obtain⟨hb,e⟩:=DJ z;obtain⟨f0,f1,f2,_⟩:=hf p.1 hb;obtain⟨o,f,d⟩:=j p.1 hb;rw[e]at f;cases f;exact⟨e,f0,f1,f2,d⟩
def Inv.kg{H:Hp}(I:Inv X (pins++pl) σ H s):Inv X pins σ H s:=I.BB λp hp=>I.pin p<|aT _<|dz _ hp
def Mt{iter:aF}{wi:TI}{g:TG}{tb:TS}(hp:PassesOwn (model X.prog X.w) X.A X.env X.xe)(hc:X.calm=true)(hi:PI X tg iter wi)(hg:PG X tg g)(hb:xA X body tb)
  (hs:(∀x,foldedSetIterable iter X.env x=pure x)<|>ζ):PS X (.For tg iter body [] pos) (Rn wi g tb):=by
 ksr_p;refine wpAny_For (ju (hi pins s σ H _ I h) λv s1 h1=>ju h1 λitv s2 h2=>?_) hs;obtain⟨it,fp,tn,J,H2,e,I2,T,P,f2,W,⟨m0,w0⟩,G⟩:=h2;subst e;have stat:∀{H':Hp},(∀b∈fp,H' b=none)->∀b∈fp,mX X pins H' b:=λhn b hb=>⟨hn b hb,(f2 b hb).2⟩;refine codeAny_forLoop_any (λn s'=>∃i t H',Inv X pins t H' s'/\tn i s'.heap/\(∀b∈fp,H' b=none)/\W i n t H') ?_ m0 ⟨0,σ,H2,I2,P,λb hb=>(f2 b hb).1,w0⟩;rintro n s3 ⟨i,z,O,I3,K,L,w3⟩
 rcases G i n z O w3 with⟨M,qn⟩|⟨go,N,hN,step⟩
 ·refine dm hp<|ju (T.done X rfl rfl rfl hc i pins s3 z O X.xe I3 (stat L) K M) λr s4 ⟨hr,I4⟩=>?_;subst hr;exact gg ⟨z,O,I4,qn⟩
 ·refine dm hp<|ju (T.item X rfl rfl rfl hc i pins s3 z O X.xe I3 (stat L) K go) λr s4 ⟨u,hr,h4⟩=>?_;subst hr;refine dm hp<|ju h4 λ_ Z ⟨x,H5,I5,r5,y5,C,Y⟩=>?_;have U:=I5.pinned (stat Y)<|T.obj _ _ C;refine dm hp<|ju (hg _ Z z H5 x u _ U r5<|step x H5 y5) λ_ s6 ⟨V,H6,I6,q6⟩=>?_;refine dm hp<|ju (hb _ s6 V H6 _ I6 q6) λf s7 B=>?_;have k:∀{j:St} {H7:Hp},Inv X (pins++n5 fp Z.heap) j H7 s7->N j H7->∃m,m<n/\∃i t H',Inv X pins t H' s7/\tn i s7.heap/\(∀b∈fp,H' b=none)/\W i m t H':=λ{j H7} I7 F=>by
   obtain⟨m',hm,w7⟩:=hN j H7 F;refine⟨m',hm,i+1,j,H7,I7.kg,T.keep _ _ _ C λb hb o e=>(I7.pin (b,o)<|aT _<|aT _<|jd hb e).1,λb hb=>?_,w7⟩;obtain⟨o,e,d⟩:=T.obj _ _ C b hb;exact(I7.pin (b,o)<|aT _<|aT _<|jd hb e).2.1
  cases f with
  | next=>obtain⟨j,H7,I7,F⟩:=B;exact k I7 F
  | cont=>obtain⟨j,H7,I7,F⟩:=B;exact k I7 F
  | brk=>obtain⟨j,H7,I7,B⟩:=B;exact⟨j,H7,I7.kg,B⟩
  | ret v=>obtain⟨x7,j,H7,I7,r7,B⟩:=B;exact⟨x7,j,H7,I7.kg,r7,B⟩
end
def BG{K:aA}{a:aq}{xs:List V}{g:TG}{tb:TS}{D:Ends}{H:Hp}(j:Nat->St->Hp->Prop)(h0:j 0 σ H)(J:∀i σ H,i<=xs.length->j i σ H->lW K H a xs)
  (hs:∀i x σ H,xs[i]?=some x->j i σ H->g x σ H λσ2 H2=>tb { D with nx:=j<|i+1,ct:=j<|i+1,bk:=D.nx } σ2 H2) (hd:∀σ H,j xs.length σ H->D.nx σ H) :
  ∃W:Nat->Nat->St->Hp->Prop,(∃m,W 0 m σ H)/\∀i m σ H,W i m σ H ->
   ((Om K a).stop i H/\D.nx σ H)\/((Om K a).go i H/\∃N:St->Hp->Prop,(∀σ' H',N σ' H'->∃m',m'<m/\W (i+1) m' σ' H')/\∀x H',(Om K a).yld i H x H'->g x σ H' λσ2 H2=>tb { D with nx:=N,ct:=N,bk:=D.nx } σ2 H2):=by
 refine⟨λi m σ H=>m=xs.length-i/\i<=xs.length/\j i σ H,⟨xs.length,by simp,bN _,h0⟩,?_⟩;rintro i m σ H ⟨rfl,hi,p⟩;have q:=J i σ H hi p;by_cases d:i<xs.length
 ·refine .inr ⟨⟨xs,xs[i],q,by simp[d]⟩,j<|i+1,λσ' H' f=>⟨xs.length-(i+1),(),rfl,d,f⟩,λx H' y=>?_⟩;obtain⟨e,y⟩:=y;subst e;exact hs i x σ _ (y xs q) p
 ·have e:i=xs.length:=()
  subst e;exact .inl ⟨⟨xs,q,aP _⟩,hd σ H p⟩
def pK{c:TT}{tb:TS}{D:Ends}{H:Hp}(j:St->Hp->Prop)(J:St->Hp->Nat)(h0:j σ H)
  (hs:∀σ H,j σ H->c σ H λb H1=>if b=true then tb { D with nx:=λσ' H'=>j σ' H'/\J σ' H'<J σ H,ct:=λσ' H'=>j σ' H'/\J σ' H'<J σ H,bk:=D.nx } σ H1 else D.nx σ H1)
  (mono:∀σ H Q Q',(∀b H1,Q b H1->Q' b H1)->c σ H Q->c σ H Q'):GY c tb D σ H:=by
 refine⟨λm σ H=>m=J σ H/\j σ H,⟨_,rfl,h0⟩,?_⟩;rintro m σ H ⟨rfl,p⟩;refine mono σ H _ _ (λb H1 q=>?_) (hs σ H p)
 cases b with
 | true=>exact⟨_,λσ' H' ⟨d,l⟩=>⟨_,l,rfl,d⟩,q⟩
 | false=>exact q
meta abbrev R2:=V->V->Hp->VK->Prop
abbrev lV (X:Cx)(f:aa->aa->Sem aa)(r:R2):Prop:=
 ∀(pins:bt) (s:aE) (σ:St) (H:Hp) (x y:V) (v u:aa) (Q:VK),Inv X pins σ H s->RelV x v->RelV y u->r x y H Q ->
  wpAny (model X.prog X.w) X.A (f v u) (EP X pins σ Q) X.xe s
abbrev Qw (X:Cx)(f:aa->Sem aa)(r:V->Hp->VK->Prop):Prop:=
 ∀(pins:bt) (s:aE) (σ:St) (H:Hp) (x:V) (v:aa) (Q:VK),Inv X pins σ H s->RelV x v->r x H Q ->
  wpAny (model X.prog X.w) X.A (f v) (EP X pins σ Q) X.xe s
abbrev jc (X:Cx)(f:aa)(r:List V->Hp->VK->Prop):Prop:=
 ∀(pins:bt) (s:aE) (σ:St) (H:Hp) (xs:List V) (us:ba) (Q:VK),Inv X pins σ H s->Vals xs us->r xs H Q ->
  wpAny (model X.prog X.w) X.A (call f us) (EP X pins σ Q) X.xe s
abbrev Sa (X:Cx)(r:V->Hp->(Bool->Hp->Prop)->Prop):Prop:=
 ∀(pins:bt) (s:aE) (σ:St) (H:Hp) (x:V) (v:aa) (Q:Bool->Hp->Prop),Inv X pins σ H s->RelV x v->r x H Q ->
  wpAny (model X.prog X.w) X.A (truthy v) (TP X pins σ Q) X.xe s
abbrev P_ (r:R2)(ta tb:TE):TE:=λσ H Q=>ta σ H λx H1=>tb σ H1 λy H2=>r x y H2 Q
abbrev Sg (r:V->Hp->VK->Prop)(ta:TE):TE:=λσ H Q=>ta σ H λx H1=>r x H1 Q
abbrev rI (C:Int->Int->Prop)(g:Int->Int->V):R2:=λx y H Q=>∃i j,x=.int i/\y=.int j/\C i j/\Q (g i j) H
abbrev K7 (g:Int->Int->V):R2:=λx y H Q=>∃i j,x=.int i/\y=.int j/\Q (g i j) H
abbrev rU (g:Int->V):V->Hp->VK->Prop:=λx H Q=>∃i,x=.int i/\Q (g i) H
section
variable {X:Cx}{a b:aF}{ta tb:TE}{pos:Pos}
def MY(J:PE X a ta)(hb:PE X b tb){H:Hp}{R:V->V->Hp->Prop}(I:Inv X pins σ H s)
  (h:ta σ H λx H1=>tb σ H1 λy H2=>R x y H2) {Q:aa->aE->Prop} {f:aa->aa->Sem aa}
  (hf:∀v u s2 x y H2,Inv X pins σ H2 s2->RelV x v->RelV y u->R x y H2->wpAny (model X.prog X.w) X.A (f v u) Q X.xe s2) :
  wpAny (model X.prog X.w) X.A (eval a X.env) (λv s₁=>wpAny (model X.prog X.w) X.A (eval b X.env) (λu s₂=>wpAny (model X.prog X.w) X.A (f v u) Q X.xe s₂) X.xe s₁) X.xe s:=by
 refine ju (J pins s σ H _ I h) λv j ⟨x,H1,I1,r1,k⟩=>?_;refine ju (hb pins j σ H1 _ I1 k) λu s2 ⟨y,H2,d,r2,g⟩=>?_;exact hf v u s2 x y H2 d r1 r2 g
def O9{r:R2}(j:lV X (binaryOp op) r)(J:PE X a ta)(hb:PE X b tb):PE X (.BinOp a op b pos) (P_ r ta tb):=by
 w_up;exact wpAny_BinOp<|MY J hb I h λv u f x y H2 d rx ry q=>j pins f σ H2 x y v u Q d rx ry q
def Il{r:V->Hp->VK->Prop}(j:Qw X (unaryOp op) r)(J:PE X a ta):PE X (.UnaryOp op a pos) (Sg r ta):=by
 w_up;exact UnaryOp_<|ju (J pins s σ H _ I h) λv d ⟨x,H1,I1,r1,f⟩=>j pins d σ H1 x v Q I1 r1 f
def Qt{f:aa->aa->Sem aa}{C:Int->Int->Prop}{g:Int->Int->Int}
  (J:∀(i j:Int) (t u:Tok) (s:aE) (Q:aa->aE->Prop) (E:aa->aE->Prop),C i j->Q (.int (g i j) s.toks) { s with toks:=s.toks+1 }->wpAny (model X.prog X.w) X.A (f (.int i t)<|.int j u) Q E s) :
  lV X f (rI C λi j=>.int<|g i j):=by
 kcj_m;obtain⟨i,j,rfl,rfl,hc,q⟩:=h;obtain⟨t,rfl⟩:=rx;obtain⟨d,rfl⟩:=ry;exact J i j t d s _ _ hc ⟨.int<|g i j,H,I.tok _,⟨_,rfl⟩,q⟩
def Pn{f:aa->aa->Sem aa}{g:Int->Int->Int}
  (J:∀(i j:Int) (t u:Tok) (s:aE) (Q:aa->aE->Prop) (E:aa->aE->Prop),Q (.int (g i j) s.toks) { s with toks:=s.toks+1 }->wpAny (model X.prog X.w) X.A (f (.int i t)<|.int j u) Q E s) :
  lV X f (K7 λi j=>.int<|g i j):=by
 kcj_m;obtain⟨i,j,rfl,rfl,q⟩:=h;obtain⟨t,rfl⟩:=rx;obtain⟨d,rfl⟩:=ry;exact J i j t d s _ _ ⟨.int<|g i j,H,I.tok _,⟨_,rfl⟩,q⟩
def JF{f:aa->aa->Sem aa}{g:Int->Int->Bool}
  (J:∀(i j:Int) (t u:Tok) (s:aE) (Q:aa->aE->Prop) (E:aa->aE->Prop),Q (.bool<|g i j) s->wpAny (model X.prog X.w) X.A (f (.int i t)<|.int j u) Q E s) :
  lV X f (K7 λi j=>.bl<|g i j):=by
 kcj_m;obtain⟨i,j,rfl,rfl,q⟩:=h;obtain⟨t,rfl⟩:=rx;obtain⟨d,rfl⟩:=ry;exact J i j t d s _ _ ⟨.bl<|g i j,H,I,rfl,q⟩
abbrev RH (i j:Int):Prop:=0<=j/\j<=1000000/\i.natAbs<2 ^ 64
abbrev JW (i j:Int):Prop:=(-(2 ^ 64)<i/\i<2 ^ 64)\/(-(2 ^ 64)<j/\j<2 ^ 64)
def JW.ok{i j:Int}(h:JW i j):IntMulOk i j:=by
 rcases h with⟨h1,h2⟩|⟨h1,h2⟩
 ·exact .of_left (intBits_le_64 h1 h2)
 ·exact .of_right<|intBits_le_64 h1 h2
def Mp:lV X (binaryOp .Add) (K7 λi j=>.int<|i+j):=Pn λ_ _ _ _ _ _ _ q=>add_int q
def NB:lV X (binaryOp .Sub) (K7 λi j=>.int<|i-j):=Pn λ_ _ _ _ _ _ _ q=>sub_int q
def M4:lV X (binaryOp .Mult) (rI JW λi j=>.int<|i * j):=Qt λ_ _ _ _ _ _ _ hc q=>mul_int q hc.ok
def Mk:lV X (binaryOp .Mod) (rI (λ_ j=>0<j) λi j=>.int<|i % j):=Qt λi j _ _ _ _ _ hc q=>by
 have h1:(0:Int)<j:=hc;exact mod_int' ()<|by rw[Int.fmod_eq_emod_of_nonneg i ()];exact q
def N7:lV X (binaryOp .Pow) (rI RH λi j=>.int<|i ^ j.toNat):=Qt λ_ _ _ _ _ _ _ hc q=>pow_int_small hc.1 hc.2.1 hc.2.2 q
theorem To{f:aa->Sem aa}{g:Int->Int}
  (j:∀(i:Int) (t:Tok) (s:aE) (Q:aa->aE->Prop) (E:aa->aE->Prop),Q (.int (g i) s.toks) { s with toks:=s.toks+1 }->wpAny (model X.prog X.w) X.A (f<|.int i t) Q E s) :
  Qw X f (rU λi=>.int<|g i):=by
 intro pins s σ H x v Q I rx h;obtain⟨i,rfl,q⟩:=h;obtain⟨t,rfl⟩:=rx;exact j i t s _ _ ⟨.int<|g i,H,I.tok _,⟨_,rfl⟩,q⟩
def Aq:Qw X (unaryOp .USub) (rU λi=>.int<|-i):=To λ_ _ _ _ _ q=>neg_int q
end
section
variable {X:Cx}{a b c:aF}{ta tb tc:TE}{pos:Pos}
def Pf:lV X (compareOp .Lt) (K7 λi j=>.bl<|decide<|i<j):=JF λ_ _ _ _ _ _ _ q=>lt_int q
def Pu:lV X (compareOp .LtE) (K7 λi j=>.bl<|decide<|i<=j):=JF λ_ _ _ _ _ _ _ q=>le_int q
def O2:lV X (compareOp .Gt) (K7 λi j=>.bl<|decide<|j<i):=JF λ_ _ _ _ _ _ _ q=>gt_int q
def P8:lV X (compareOp .GtE) (K7 λi j=>.bl<|decide<|j<=i):=JF λ_ _ _ _ _ _ _ q=>ge_int q
def GP(b:aF)(h:op≠.In<|>δ)(h2:op≠.NotIn<|>δ):behindInMarks op b=false:=by
 have e1:(op == CmpOp.In)=false:=by cases op<;>first|rfl|exact absurd rfl h
 have e2:(op == CmpOp.NotIn)=false:=by cases op<;>first|rfl|exact absurd rfl h2
 cases b<;>simp[behindInMarks,e1,e2]
def J1{j:CmpOp}{r:R2}(J:lV X (compareOp j) r)(L:PE X a ta)(hb:PE X b tb)(hm:behindInMarks j b=false):PE X (.Compare a [j] [b] pos) (P_ r ta tb):=by
 w_up;exact wpAny_Compare1 (MY L hb I h λv u f x y H2 d rx ry q=>J pins f σ H2 x y v u Q d rx ry q) hm
abbrev Qg (t:TE):TT:=λσ H Q=>t σ H λx H'=>∃k,x=.bl k/\Q k H'
def JT{J:CmpOp}{r:R2}(L:lV X (compareOp J) r)(M:PE X a ta)(hb:PE X b tb)(hm:behindInMarks J b=false):PT X (.Compare a [J] [b] pos) (Qg<|P_ r ta tb):=by
 w_up;refine wpAny_isTrue_Compare1 (ju (M pins s σ H _ I h) λv g ⟨x,H1,I1,r1,m⟩=>ju (hb pins g σ H1 _ I1 m) λu t ⟨y,H2,d,r2,f⟩=>
  ju (L pins t σ H2 x y v u _ d r1 r2 f) λc C ⟨z,B,I3,r3,k,e,j⟩=>?_) hm
 subst e
 cases r3
 exact dB ⟨B,I3,j⟩
abbrev EI (r r':R2)(ta tb tc:TE):TE:=λσ H Q=>ta σ H λx H1=>tb σ H1 λy H2=>r x y H2 λz d=>∃k,z=.bl k /\
 (if k=true then tc σ d λf g=>r' y f g Q else Q (.bl false) d)
def GL{r r':R2}(Z:lV X (compareOp op) r)(U:lV X (compareOp op') r')(ha:PE X a ta)(hb:PE X b tb)(hc:PE X c tc)
  (hm:lastMarks [op,op'] [b,c]=false<|>η):PE X (.Compare a [op,op'] [b,c] pos) (EI r r' ta tb tc):=by
 w_up;refine Compare_chain (ju (ha pins s σ H _ I h) λv B ⟨x,H1,I1,r1,J⟩=>chain_link (ju (hb pins B σ H1 _ I1 J) λu L ⟨y,H2,j,r2,t⟩=>
  ju (Z pins L σ H2 x y v u _ j r1 r2 t) λd F ⟨z,g,I3,r3,k,e,f⟩=>?_)) hm
 subst e
 cases r3
 refine dB ?_
 cases k with
 | false=>exact ite_ff ⟨.bl false,g,I3,rfl,f⟩
 | true=>exact ite_tt<|chain_last<|ju (hc pins F σ g _ I3 f) λK O ⟨G,m,C,N,M⟩=>U pins O σ m y G u K Q C r2 N M
abbrev Nx (K:aA)(x:V)(H:Hp)(k:Bool):Prop:=
 match x with
 | .non=>k=false
 | .bl b=>k=b
 | .int i=>k=(i != 0)
 | .str y=>y.length<=sizeLine/\k=((y.length:Int) != 0)
 | .byt y=>y.size<=sizeLine/\k=((y.size:Int) != 0)
 | .ref p=>(∃xs,jR K H p xs/\k=!xs.isEmpty)\/(∃xs,lW K H p xs/\k=!xs.isEmpty)\/∃kvs,H p=some (.dK kvs)/\k=!kvs.isEmpty
 | _=>False
def An{κ:Type}{kvs:List<|κ×V}{vs:List<|κ×aa}(r:KV kvs vs):(!vs.isEmpty)=!kvs.isEmpty:=by
 cases r<;>rfl
def uS{xs:List V}{its:ba}(r:Vals xs its):(!its.toArray.isEmpty)=!xs.isEmpty:=by
 cases r<;>simp
def sC:(sizeLine:Nat)<2 ^ 63:=by rw[cS];decide
def Ob:Sa X (λx H Q=>∃k,Nx X.K x H k/\Q k H):=by
 intro pins s σ H x v Q I rx h;obtain⟨k,e,q⟩:=h;have F:=sC;have hs:sizeLine=16777216:=cS
 cases x with
 | non=>
  cases rx
  have d:k=false:=e;subst d;exact truthy_none ⟨H,I,q⟩
 | bl b=>
  cases rx
  have d:k=b:=e;subst d;exact dB ⟨H,I,q⟩
 | int i=>
  obtain⟨t,rfl⟩:=rx;have d:k=(i != 0):=e;subst d;exact PySem.P.truthy_int ⟨H,I,q⟩
 | str y=>
  obtain⟨t,rfl⟩:=rx;obtain⟨hy,d⟩:y.length<=sizeLine/\k=((y.length:Int) != 0):=e;subst d;exact PySem.P.truthy_str () ⟨H,I.tok _,q⟩
 | byt y=>
  obtain⟨t,rfl⟩:=rx;obtain⟨hy,d⟩:y.size<=sizeLine/\k=((y.size:Int) != 0):=e;subst d;exact PySem.W.truthy_bytes () ⟨H,I.tok _,q⟩
 | ref p=>
  cases rx
  have d:(∃xs,jR X.K H p xs/\k=!xs.isEmpty)\/(∃xs,lW X.K H p xs/\k=!xs.isEmpty)\/∃kvs,H p=some (.dK kvs)/\k=!kvs.isEmpty:=e
  rcases d with⟨xs,hx,d⟩|⟨xs,hx,d⟩|⟨kvs,hx,d⟩
  ·subst d;obtain⟨j,r,z,B⟩:=I.list hx;have f:=r.length;exact wpAny_truthy_list z.isList (by dsimp[aW];lia) ⟨H,I.tok _,by rw[uS r];exact q⟩
  ·subst d;obtain⟨j,r,z,B⟩:=I.tuple hx;have f:=r.length;exact truthy_tuple z (by dsimp[aW];lia) ⟨H,I.tok _,by rw[uS r];exact q⟩
  ·subst d;obtain⟨B,C,g,r,m⟩:kvs.length<=sizeLine/\(p == sysModules)=false/\∃g,KV kvs g/\s.heap.DictOf (jB X.prog X.w) p g:=I.hok p _ hx;have f:kvs.length=g.length:=f9 r;exact wpAny_truthy_dict C m () ⟨H,I.tok _,by rw[An r];exact q⟩
 | _=>exact(show False from e).elim
def Ff(j:PE X a ta)(J:∀whole,isTrue a X.env whole=(do let v <- whole;standAt a.pos;holding [v] (truthy v))) :
  PT X a (λσ H Q=>ta σ H λx H'=>∃k,Nx X.K x H' k/\Q k H'):=by
 w_up;exact isTrue_plain (ju (j pins s σ H _ I h) λv d ⟨x,H1,I1,r1,f⟩=>Ob pins d σ H1 x v Q I1 r1 f)<|J _
def zZ:lV X (binaryOp .Add) (λx y H Q=>∃i j,x=.str i/\y=.str j/\i.length+j.length<=sizeLine/\Q (.str<|i++j) H):=by
 kcj_m;obtain⟨i,j,rfl,rfl,d,q⟩:=h;obtain⟨t,rfl⟩:=rx;obtain⟨f,rfl⟩:=ry;exact add_str (λf g=>⟨.str<|i++j,H,I.tok _,⟨_,rfl⟩,q⟩) d
def vals1{x:V}(r:Vals [x] us):∃u,us=[u]/\RelV x u:=by
 cases r with
 | cons r1 r2=>cases r2;exact⟨_,rfl,r1⟩
def vals2{x:V}(r:Vals [x,y] us):∃u w',us=[u,w']/\RelV x u/\RelV y w':=by
 cases r with
 | cons r1 r2=>
  cases r2 with
  | cons r3 d=>cases d;exact⟨_,_,rfl,r1,r3⟩
def Di(hc:X.calm=true):jc X (.builtin "max") (λxs H Q=>∃i j,xs=[.int i,.int j]/\Q (.int<|if j>i then j else i) H):=by
 kt_k;obtain⟨i,j,rfl,q⟩:=h;obtain⟨u,g,rfl,⟨t,rfl⟩,⟨f,rfl⟩⟩:=vals2 r;refine max_two_ints (I.ok.hd hc) λh' m k=>⟨_,H,I.kept k,?_,q⟩;by_cases d:j>i
 ·rw[aR d,aR d];exact⟨_,rfl⟩
 ·rw[aU d,aU d];exact⟨_,rfl⟩
def Eg(hc:X.calm=true):jc X (.builtin "min") (λxs H Q=>∃i j,xs=[.int i,.int j]/\Q (.int<|if j<i then j else i) H):=by
 kt_k;obtain⟨i,j,rfl,q⟩:=h;obtain⟨u,g,rfl,⟨t,rfl⟩,⟨f,rfl⟩⟩:=vals2 r;refine min_two_ints (I.ok.hd hc) λh' m k=>⟨_,H,I.kept k,?_,q⟩;by_cases d:j<i
 ·rw[aR d,aR d];exact⟨_,rfl⟩
 ·rw[aU d,aU d];exact⟨_,rfl⟩
abbrev Rf (K:aA)(x:V)(H:Hp)(n:Nat):Prop:=
 match x with
 | .str y=>y.length<=sizeLine/\n=y.length
 | .byt y=>y.size<=sizeLine/\n=y.size
 | .ref p=>(∃xs,jR K H p xs/\n=xs.length)\/∃xs,lW K H p xs/\n=xs.length
 | _=>False
def Ga:jc X (.builtin "len") (λxs H Q=>∃x n,xs=[x]/\Rf X.K x H n/\Q (.int n) H):=by
 kt_k;obtain⟨x,n,rfl,e,q⟩:=h;kst_p;have z:=sC;have hs:sizeLine=16777216:=cS
 cases x with
 | str y=>
  obtain⟨t,rfl⟩:=rx;obtain⟨hy,f⟩:y.length<=sizeLine/\n=y.length:=e;subst f;exact len_str () ⟨.int _,H,I.tok _,⟨_,rfl⟩,q⟩
 | byt y=>
  obtain⟨t,rfl⟩:=rx;obtain⟨hy,f⟩:y.size<=sizeLine/\n=y.size:=e;subst f;exact PySem.W.len_bytes () ⟨.int _,H,I.tok _,⟨_,rfl⟩,q⟩
 | ref p=>
  cases rx
  have f:(∃xs,jR X.K H p xs/\n=xs.length)\/∃xs,lW X.K H p xs/\n=xs.length:=e
  rcases f with⟨xs,hx,f⟩|⟨xs,hx,f⟩
  ·subst f;obtain⟨g,j,k,m⟩:=I.list hx;have d:=j.length;exact Calls.call_len_list k.isList (by dsimp[aW];lia) ⟨.int xs.length,H,I.tok _,⟨_,by dsimp[aW];rw[d]⟩,q⟩
  ·subst f;obtain⟨g,j,k,m⟩:=I.tuple hx;have d:=j.length;exact len_tuple k (by dsimp[aW];lia) ⟨.int xs.length,H,I.tok _,⟨_,by dsimp[aW];rw[d]⟩,q⟩
 | _=>exact(show False from e).elim
end
structure ObjM (h:au)(x dx C:aq)(mA:Str->bi):Prop where
 obj:h.get? x=some (PySem.W.instObj C dx)
 ns:h.Ns1 dx mA
 ne:dx≠x
def Dh{h:au}{J:Str->bi}(n:h.Ns1 dx J):∃od,h.get? dx=some od/\∀name,PySem.W.lookIn name od=some (J name):=by
 obtain⟨o,es,ep,g,hd,j,_,hm⟩:=n;refine⟨o,g,λname=>?_⟩;have e:=hm name;unfold nsFind findBy at e;rw[<- Array.find?_toList]at e;unfold PySem.W.lookIn;rw[hd];dsimp only;split
 ·rename_i y q;rw[q]at e;exact cj some e
 ·rename_i q;rw[q]at e;have a:es.toList.any (·.refKey)=false:=by
   rw[List.any_eq_false];intro y hy;obtain⟨z,t,d⟩:=j y<|Array.mem_toList_iff.mp hy;simp[DictEntry.refKey,d]
  have f:¬es.toList.any (·.refKey)=true:=by rw[a];exact bf
  rw[aU f];exact cj some e
def ObjM.look{x C:aq}{j:Str->bi}(I:ObjM h x dx C j):∃od,PySem.W.InstAt h x (PySem.W.instObj C dx) C (some od)/\∀name,PySem.W.lookIn name od=some (j name):=
 let⟨od,ho,hl⟩:=Dh I.ns
 ⟨od,⟨I.obj,rfl,rfl,ho⟩,hl⟩
def ve.some_of{v:V}(r:ve (some v) o):∃u,o=some u/\RelV v u:=by
 cases o with
 | none=>exact(show False from r).elim
 | some u=>exact⟨u,rfl,r⟩
section
variable {P:ah}{w:af}{H:Hp}{h:au}{a C dx:aq}{fs:List (Str×V)}
def JZ(hok:qN P w H h)(e:H a=some (.ins C dx fs)):∃mA,ObjM h a dx C mA/\(∀f,ve (fs.lookup f)<|mA f)/\PySem.Within mA (fs.map (·.1))/\fs.length<=1000/\H dx=some (.own a):=by
 obtain⟨d,z,g,ob,mA,n,r,q⟩:=(show jq P w H h a (.ins C dx fs)from hok a _ e);exact⟨mA,⟨ob,n,g⟩,r,q,z,d⟩
end
structure Cls (K:aA)(C:aq):Prop where
 pg:PySem.W.plainGet K C Str.empty=true
 hd:PySem.W.hasDictIn K C=true
 po:PySem.W.plainOver K C=true
 sa:PySem.W.findIn K (.ref C) "__setattr__" = some (some<|.builtin "object.__setattr__")
def Cls.get{K:aA}{C:aq}(c:Cls K C)(f:Str):PySem.W.plainGet K C f=true:=c.pg
section
variable {X:Cx}{pins:bt}{σ:St}{H:Hp}{s:aE}{A:aC}{E:aa->aE->Prop}{Q:aa->aE->Prop}{c:aa}{b:Bool}
inductive TyOf (K:aA) (H:Hp):V->aa->Prop where
 | non:TyOf K H .non (.type "NoneType")
 | bl (x:Bool):TyOf K H (.bl x) (.type "bool")
 | int (i:Int):TyOf K H (.int i) (.type "int")
 | str (x:Str):TyOf K H (.str x) (.type "str")
 | flt (x:UInt64):TyOf K H (.flt x) (.type "float")
 | lst {a:aq} {xs:List V} (e:H a=some (.lst xs)):TyOf K H (.ref a) (.type "list")
 | frz {a:aq} {o:Obj} {xs:List V} (e:H a=some (.frz o<|.lst xs)):TyOf K H (.ref a) (.type "list")
 | tup {a:aq} {xs:List V} (e:H a=some (.tup xs)):TyOf K H (.ref a) (.type "tuple")
 | dK {a:aq} {kvs:List<|Key×V} (e:H a=some (.dK kvs)):TyOf K H (.ref a) (.type "dict")
 | dT {a:aq} {kvs:List<|List Key×V} (e:H a=some (.dT kvs)):TyOf K H (.ref a) (.type "dict")
 | ins {a C dx:aq} {fs:List<|Str×V} (e:H a=some (.ins C dx fs)) (cl:Cls K C) (ha:PySem.W.findIn K (.ref C) "__class__" = some (some<|.builtin "object.__class__"))
   (hn:PySem.W.specialIn K (.builtin "object.__class__") "__get__" = some (some<|.builtin "getset_descriptor.__get__")) (htk:PySem.W.takesIn K (.builtin "object.__class__")=some true)
   (hm:PySem.W.mroIn K C (.type "object")=some true):TyOf K H (.ref a)<|.ref C
def Ef{x:V}{t:aa}(I:Inv X pins σ H s)(rx:RelV x u)(ty:TyOf X.K H x t)(e:PySem.W.kitOne X.K t c=some b)(h:∀tk,Q (.bool b) { s with toks:=tk }) :
  wpAny (model X.prog X.w) A (call (.builtin "isinstance") [u,c]) Q E s:=by
 cases ty with
 | non=>cases(show u=Value.none from rx);exact cy PySem.W.kitx_none I.xR True.intro e (λz=>nomatch z) h
 | bl y=>cases(show u=Value.bool y from rx);exact cy PySem.W.kitx_bool I.xR True.intro e (λz=>nomatch z) h
 | int i=>obtain⟨t,q⟩:=(show ∃t,u=Value.int i t from rx);cases q;exact cy PySem.W.kitx_int I.xR True.intro e (λz=>nomatch z) h
 | str y=>obtain⟨t,q⟩:=(show ∃t,u=Value.str y t from rx);cases q;exact cy PySem.W.kitx_str I.xR True.intro e (λz=>nomatch z) h
 | flt y=>obtain⟨t,q⟩:=(show ∃t,u=Value.float y t from rx);cases q;exact cy PySem.W.kitx_float I.xR True.intro e (λz=>nomatch z) h
 | @lst a xs d=>
  cases(show u=Value.ref a from rx)
  obtain⟨_,_,n,_,h1⟩:=(show jq X.prog X.w H s.heap a (.lst xs)from I.hok a _ d);exact cy PySem.W.kitx_list I.xR ⟨_,h1,rfl⟩ e (λz=>nomatch z) h
 | @frz a ob xs d=>
  cases(show u=Value.ref a from rx)
  obtain⟨_,_,_,n,_,h1⟩:=(show jq X.prog X.w H s.heap a (.frz ob<|.lst xs)from I.hok a _ d);exact cy PySem.W.kitx_list I.xR ⟨_,h1,rfl⟩ e (λz=>nomatch z) h
 | @tup a xs d=>
  cases(show u=Value.ref a from rx)
  obtain⟨_,_,_,p⟩:=(show jq X.prog X.w H s.heap a (.tup xs)from I.hok a _ d);obtain⟨o,h1,h2,_⟩:=p;exact cy PySem.W.kitx_tuple I.xR ⟨o,h1,h2⟩ e (λz=>nomatch z) h
 | @dK a kvs d=>
  cases(show u=Value.ref a from rx)
  obtain⟨_,_,k,_,p⟩:=(show jq X.prog X.w H s.heap a (.dK kvs)from I.hok a _ d);obtain⟨o,es,ep,h1,h2,_⟩:=p;exact cy PySem.W.kitx_dict I.xR ⟨o,h1,h2.1⟩ e (λz=>nomatch z) h
 | @dT a kvs d=>
  cases(show u=Value.ref a from rx)
  obtain⟨_,_,xs,_,o,es,ep,h1,h2,_⟩:=(show jq X.prog X.w H s.heap a (.dT kvs)from I.hok a _ d);exact cy PySem.W.kitx_dict I.xR ⟨o,h1,h2.1⟩ e (λz=>nomatch z) h
 | @ins a C dx fs d g j hn f hm=>
  cases(show u=Value.ref a from rx)
  obtain⟨m,O,_⟩:=JZ I.hok d;obtain⟨B,J,_⟩:=O.look;exact cy (PySem.W.kitx_own (g.get _) g.hd j hn f hm) I.xR J e (λz=>nomatch z) h
end
structure Room (k:Nat)(A:aC):Prop where
 hd:A.handled=none
 dp:A.depth+3 * k+5<recursionLimit
 un:A.units+16 * k+200<cLine
 gs:A.guards=some []
def Room.mono{k:Nat}{A:aC}(r:Room k A)(h:j<=k):Room j A:=⟨r.hd,by have:=r.dp;lia,by have:=r.un;lia,r.gs⟩
def Room.deeper{k:Nat}{A:aC}(r:Room (k+1) A)(env:Env):Room k (A.deeper env):=
 ⟨r.hd,by have:=r.dp;show A.depth+1+3 * k+5<_;lia,by have:=r.un;show A.units+3+16 * k+200<_;lia,r.gs⟩
def Room.depth{k:Nat}{A:aC}(r:Room k A):A.depth<recursionLimit:=by have:=r.dp;lia
def Room.units{k:Nat}{A:aC}(r:Room k A):A.units+64<cLine:=by have:=r.un;lia
abbrev QZ:TA:=λ_ H Q=>Q [] H
abbrev PY (ta:TE)(tr:TA):TA:=λσ H Q=>ta σ H λx H1=>tr σ H1 λxs H2=>Q (x::xs) H2
section
variable {X:Cx}{e:aF}{es:List aF}{te:TE}{t:TA}{pos:Pos}
def rV:PA X [] QZ:=λ_ _ _ _ H Q I h=>Calls.spliced_nil ⟨[],H,I,.nil,h⟩
def k9(J:PE X e te)(hr:PA X es t)(hs:starEach (e::es) X.env=(false,eval e X.env)::starEach es X.env<|>ε):PA X (e::es) (PY te t):=by
 intro pos pins s σ H Q I h;rw[hs]
 skip
 refine Calls.spliced_cons<|ju (J pins s σ H _ I h) λu g ⟨x,H1,I1,r1,j⟩=>?_;exact ju (hr pos pins g σ H1 _ I1 j) λus k ⟨xs,H2,d,r2,f⟩=>⟨x::xs,H2,d,.cons r1 r2,f⟩
abbrev Rv (t:TA):TE:=λσ H Q=>t σ H λxs H1=>xs.length<=sizeLine/\∀p,H1 p=none->Q (.ref p) (upd H1 p<|.tup xs)
abbrev RI (t:TA):TE:=λσ H Q=>t σ H λxs H1=>xs.length<=sizeLine/\∀p,H1 p=none->Q (.ref p) (upd H1 p<|.lst xs)
def Nd{x1}(h:PA X es t):PE X (.Tuple es x1 pos) (Rv t):=by
 intro pins s σ H Q I f;refine wpAny_Tuple_spliced (ju (h pos pins s σ H _ I f) λus d ⟨xs,H1,I1,r,z,q⟩=>⟨by rw[<- r.length];exact z,?_⟩);have hf:H1 d.heap.objs.size=none:=I1.hok.fresh<|aP _;refine⟨.ref d.heap.objs.size,upd H1 d.heap.objs.size<|.tup xs,I1.laid (t':=d.toks) (λb u e=>aQ _ e) (aP _) ?_,rfl,q _ hf⟩;exact⟨z,us,r,⟨_,bI _ rfl,rfl,rfl,_,rfl⟩⟩
def Ma(h:PA X es t):PE X (.List es pos) (RI t):=by
 intro pins s σ H Q I f;refine wpAny_List_spliced (ju (h pos pins s σ H _ I f) λus d ⟨xs,H1,I1,r,z,q⟩=>⟨by rw[<- r.length];exact z,?_⟩);have hf:H1 d.heap.objs.size=none:=I1.hok.fresh<|aP _;refine⟨.ref d.heap.objs.size,upd H1 d.heap.objs.size<|.lst xs,I1.laid (t':=d.toks) (λb u e=>aQ _ e) (aP _) ?_,rfl,q _ hf⟩;exact⟨z,us,0,r,bI _ rfl⟩
end
meta abbrev Sp:=List V->Hp->VK->XK->Prop
meta abbrev IY:=List Env->Hp->aE->XK->aa->aE->Prop
structure Env0 (P:ah)(w:af)(K:aA)(mg:Str->bi)(base:au)(A:aC)(outer:List Env)(s:aE)(H:Hp):Prop where
 frames:A.frames=some outer
 mod:Mod K mg base
 bs:∀b o,base.get? b=some o->s.heap.get? b=some o/\H b=none
 bsz:base.objs.size<=s.heap.objs.size
 u7:s.heap.FunFrames base outer
 frf:∀b∈frs outer,H b=none
 hok:qN P w H s.heap
 bare:AllBare s.gens
abbrev CE (outer:List Env)(P:ah)(w:af)(H:Hp)(s:aE)(Q:VK)(u:aa)(s':aE):Prop:=
 ∃v H',s'.os=s.os/\AllBare s'.gens/\Un (frs outer) [] H H' s.heap s'.heap/\qN P w H' s'.heap/\RelV v u/\Q v H'
abbrev CR (CX:IY)(outer:List Env)(P:ah)(w:af)(H:Hp)(s:aE)(Q:VK)(E:XK)(r:Result)(s':aE):Prop:=
 match r with
 | .ok (.ret u)=>CE outer P w H s Q u s'
 | .ok _=>False
 | .error e=>CX outer H s E e s'
structure FnOk (P:ah)(w:af)(K:aA)(mg:Str->bi)(base:au)(CX:IY)(k:Nat)(f:aq)(fd:FuncData)(ps:ar)(sp:Sp):Prop where
 len:∀vs H Q E,sp vs H Q E->vs.length=ps.length
 run:∀(A:aC) (outer:List Env) (s:aE) (H:Hp) (args:Args) (us:ba) (vs:List V) (Q:VK) (E:XK),Room k A->Env0 P w K mg base A outer s H->BindsTo s fd args (ps.zip us)->Vals vs us->sp vs H Q E ->
  codeAny (model P w) A (.call (.ref f) args) (CR CX outer P w H s Q E) s
section
variable {X:Cx}{pins:bt}{σ:St}{H:Hp}{s s':aE}
def Inv.RK(I:Inv X pins σ H s):Env0 X.prog X.w X.K X.mg X.base X.A X.stack s H:=
 ⟨I.ok.frames,I.ok.mod,I.bs,bH I.ok.bsz I.sz,I.stack,I.CC,I.hok,I.bare⟩
def Inv.after{Q:VK}(I:Inv X pins σ H s)(h:CE X.stack X.prog X.w H s Q u s'):EP X pins σ Q u s':=by
 obtain⟨v,H',os,bare,un,hok,r,q⟩:=h;obtain⟨hh,g,d,t,f⟩:=s';obtain rfl:f=s.os:=os;exact⟨v,H',I.call (h':=hh) (g':=g) (d':=d) (t':=t) (ch:=[]) un hok bare λb z=>absurd z<|by simp,r,q⟩
end
abbrev LV (sp:Sp)(dvs:List V)(E:XK)(t:TA):TE:=λσ H Q=>t σ H λd H1=>sp (d++dvs) H1 Q E
abbrev Binds (K:aA)(fd:FuncData)(ps:ar)(ds:ba):Prop:=
 ∀(s:aE) (us:ba),K.In s.heap->(us++ds).length=ps.length->BindsTo s fd ⟨us,[]⟩ (ps.zip<|us++ds)
def Binds.all{K:aA}{ps:ar}(h:∀us:ba,us.length=ps.length->bindArgs fd ⟨us,[]⟩=pure (ps.zip us)):Binds K fd ps []:=λs us _ d=>by
 rw[bJ]at d ⊢;exact .of_eq<|h us d
abbrev Passes (CX:IY)(X:Cx)(E:XK):Prop:=∀(pins:bt) (σ:St) (H:Hp) (s:aE) (e:aa) (s':aE),Inv X pins σ H s->CX X.stack H s E e s'->X.xe e s'
section
variable {X:Cx}{CX:IY}{k:Nat}{f C:aq}{fd:FuncData}{ps:ar}{sp:Sp}{dvs:List V}{ds:ba}{E:XK}{x:Str}{p pos:Pos}{e:aF}{es:List aF}{t:TA}
def MD{H:Hp}{Q:VK}(F:FnOk X.prog X.w X.K X.mg X.base CX k f fd ps sp)(hr:Room k X.A)(hb:Binds X.K fd ps ds)(hd:Vals dvs ds)(hx:Passes CX X E)
  (I:Inv X pins σ H s) (r:Vals vs us) (h:sp (vs++dvs) H Q E):wpAny (model X.prog X.w) X.A (call (.ref f) us) (EP X pins σ Q) X.xe s:=by
 have r2:Vals (vs++dvs) (us++ds):=r.append hd;have g:(us++ds).length=ps.length:=by rw[<- r2.length];exact F.len _ _ _ _ h
 refine wpAny_call (gv (F.run X.A X.stack s H ⟨us,[]⟩ (us++ds) (vs++dvs) Q E hr I.RK (hb s us I.xR g) r2 h) λr s' d=>?_)
 cases r with
 | error e=>exact hx pins σ H s e s' I d
 | ok fl=>
  cases fl with
  | ret u=>exact I.after d
  | next=>exact False.elim d
  | brk=>exact False.elim d
  | cont=>exact False.elim d
def JH(F:FnOk X.prog X.w X.K X.mg X.base CX k f fd ps sp)(hr:Room k X.A)(hg:Gl X x)(hm:X.mg x=some (.ref f))(L:PySem.W.keepIn X.K (.ref f)=true)(hb:Binds X.K fd ps ds)(hd:Vals dvs ds)(hx:Passes CX X E)
  (M:PA X (e::es) t) (j:(x == ("__debug__" : Str))=false<|>δ) (U:starEach (e::es) X.env=(false,eval e X.env)::starEach es X.env<|>ε) (J:((backTo pos<|starEach es X.env).any (·.1)=false)<|>ε) :
  PE X (.Call (.Name x p) (e::es) [] pos) (LV sp dvs E t):=by
 w_up;refine gy<|AH I hg hm ?_ j;refine PySem.W.callWith_K (h₀:=X.base) I.ok.mod.kin L (ju (M pos pins s σ H _ I h) λus g ⟨d,H1,I1,r,q⟩=>⟨I1.xR,?_⟩) U J;exact MD F hr hb hd hx I1 r q
end
section
variable {fd:FuncData}{ps ks:ar}
end
structure FnScope (N P:ar)(sc:Scope):Prop where
 kind:sc.kind=.function
 co:sc.isCoroutine=false
 gen:sc.isGenerator=false
 nd:N.Nodup
 pre:N.take P.length=P
 par:∀x∈P,sc.names.lookup x=some .local\/sc.names.lookup x=some .cell
 nofree:∀y∈sc.names,y.2≠.free
theorem vZ{j:Str->Option NameKind}{x:Str}:∀{binds:List<|Str×aa}{m:Str->bi},(∀v,(x,v)∉binds)->bindL j binds m x=m x
 | [],_,_=>rfl
 | (n,v)::r,m,h=>by
  unfold bindL;rw[vZ λw hw=>h w<|aN _ hw];split
  ·have:x≠n:=by rintro rfl;exact h v aM
   simp[this]
  ·rfl
theorem vO{j:Str->Option NameKind}{x:Str}:∀{binds:List<|Str×aa}{m:Str->bi},(∀v,(x,v)∉binds)->bindC j binds m x=m x
 | [],_,_=>rfl
 | (n,v)::r,m,h=>by
  unfold bindC;rw[vO λw hw=>h w<|aN _ hw];split
  ·rfl
  ·have:x≠n:=by rintro rfl;exact h v aM
   simp[this]
theorem vH{j:Str->Option NameKind}{x:Str}{v:aa}:∀{P:ar}{vs:ba}{i:Nat}{m:Str->bi},P.Nodup->P[i]?=some x->vs[i]?=some v->j x=some .local ->
  bindL j (P.zip vs) m x=some v
 | [],_,_,_,_,h,_,_=>by simp at h
 | _::_,[],_,_,_,_,h,_=>by simp at h
 | p::P,w::vs,0,m,nd,h1,h2,hk=>by
  simp at h1 h2;subst h1;subst h2;show bindL j ((p,w)::P.zip vs) m p=_;unfold bindL;rw[vZ λv hv=>(bO.mp nd).1 (gZ hv).1,aR hk];simp
 | p::P,w::vs,i+1,m,nd,h1,h2,hk=>by
  skip
  unfold bindL;exact vH (i:=i) (bO.mp nd).2 (by simpa using h1) (by simpa using h2) hk
theorem we{j:Str->Option NameKind}{x:Str}{v:aa}:∀{P:ar}{vs:ba}{i:Nat}{m:Str->bi},P.Nodup->P[i]?=some x->vs[i]?=some v->j x≠some .local ->
  bindC j (P.zip vs) m x=some v
 | [],_,_,_,_,h,_,_=>by simp at h
 | _::_,[],_,_,_,_,h,_=>by simp at h
 | p::P,w::vs,0,m,nd,h1,h2,hk=>by
  simp at h1 h2;subst h1;subst h2;show bindC j ((p,w)::P.zip vs) m p=_;unfold bindC;rw[vO λv hv=>(bO.mp nd).1 (gZ hv).1,aU hk];simp
 | p::P,w::vs,i+1,m,nd,h1,h2,hk=>by
  skip
  unfold bindC;exact we (i:=i) (bO.mp nd).2 (by simpa using h1) (by simpa using h2) hk
abbrev start (N:ar)(vs:List V):St:=vs.map some++List.replicate (N.length-vs.length) none
abbrev z_ (CX:IY)(P:ah)(w:af)(K:aA)(mg:Str->bi)(base:au)(N:ar)(j:Str)(scope:Scope)(f:aq)(J:aa)(A:aC)(outer:List Env)(s:aE)(H:Hp)(E:XK):Cx where
 prog:=P
 w:=w
 K:=K
 mg:=mg
 base:=base
 A:=A.deeper (envOfC j scope s.heap.objs.size f J)
 N:=N
 s₀:=s
 H₀:=H
 env:=envOfC j scope s.heap.objs.size f J
 outer:=outer
 stack:=envOfC j scope s.heap.objs.size f J::outer
 ex:=[]
 calm:=true
 fn:=λ_=>true
 pn:=[]
 xe:=λe s'=>wpAny (model P w) (A.deeper<|envOfC j scope s.heap.objs.size f J) (leaving (envOfC j scope s.heap.objs.size f J) e) (λ_ d=>CX outer H s E e d) (λg d=>CX outer H s E g d) s'
def yj{j:Scope}{n:Nat}{x:Str}(h:j.names.lookup x=some .cell):∃c,(cellsFrom n j.names []).lookup x=some c:=by
 have q:=d7 j.names n []<|.inl h;exact cR.mp q
def Dm{CX:IY}{P:ah}{w:af}{K:aA}{mg:Str->bi}{base:au}{N ps:ar}{scope:Scope}{f:aq}{A:aC}{outer:List Env}{s:aE}{H:Hp}{E:XK}{vs:List V}
  (S:FnScope N ps scope) (hd:A.handled=none) (e0:Env0 P w K mg base A outer s H) (J:vs.length=ps.length) (r:Vals vs us)
  (x:InCallC s s.heap.objs.size (bindL (envOfC qual scope s.heap.objs.size f cd).kindOf (ps.zip us) λ_=>none) (cellsFrom (s.heap.objs.size+1) scope.names []) (bindC (envOfC qual scope s.heap.objs.size f cd).kindOf (ps.zip us) λ_=>none) s1) :
  Inv (z_ CX P w K mg base N qual scope f cd A outer s H E) [] (start N vs) H s1:=by
 have t:ps.length<=N.length:=by have:=cj List.length S.pre;rw[b8]at this;lia
 obtain⟨h1,G,rfl,j⟩:=x.done;have d:∀b:aq,b∉(z_ CX P w K mg base N qual scope f cd A outer s H E).ex:=λb z=>absurd (show b∈([]:bd)from z) (by simp);refine⟨⟨e0.mod,S.kind,rfl,rfl,aP _,λy z c h1 h2=>?_,λy hy=>?_,λy c _ h=>?_,λ_=>hd,Around.frames_deeper e0.frames,.inr ⟨rfl,rfl⟩,λb z=>absurd z<|d b,e0.bs,e0.bsz,λb _ _=>d b,λb z=>absurd z<|d b,e0.u7,e0.frf⟩,
  rfl,e0.bare,Un.kept j,⟨_,x.toInCall.ns,λi y v h1 h2 F=>?_⟩,λy c h=>⟨_,x.cell y c h⟩,e0.hok.fresh<|aP _,λy c h=>?_,λp hp=>absurd (show p∈([]:bt)from hp)<|by simp,e0.hok.kept j,?_⟩
 ·exact name_of_addr x.apart (cF h1) (cF h2)
 ·have hy:scope.names.lookup y=some .cell\/scope.names.lookup y=some .free:=hy
  rcases hy with hy|hy
  ·exact yj hy
  ·exact absurd rfl<|S.nofree _<|cF hy
 ·exact cQ (x.above y c<|cF h)
 ·have hi:i<vs.length:=by
   unfold start at h2;by_cases hi:i<vs.length
   ·exact hi
   ·rw[b9<|by simpa using hi]at h2;rw[List.getElem?_replicate]at h2;split at h2<;>cases h2
  have B:vs[i]?=some v:=by
   unfold start at h2;rw[aS<|by simpa using hi,aX]at h2
   cases e:vs[i]? with
   | none=>rw[e]at h2;cases h2
   | some a=>rw[e]at h2;cases h2;rfl
  obtain⟨u,m,C⟩:=r.get B;have hp:ps[i]?=some y:=by
   rw[<- S.pre,e_ ()];exact h1
  have g:ps.Nodup:=by rw[<- S.pre];exact S.nd.sublist (List.take_sublist _ _)
  refine⟨u,C,?_⟩
  rcases S.par y (bx hp)with k|k
  ·exact .inl ⟨k,vH g hp m k⟩
  ·obtain⟨c,e⟩:=yj (n:=s.heap.objs.size+1) k;refine .inr ⟨.inl k,c,e,?_⟩;have q:=x.cell y c e;rw[we g hp m<|by show scope.names.lookup y≠_;rw[k];decide]at q;exact q
 ·exact e0.hok.fresh (cQ<|x.above y c<|cF h)
 ·unfold start;show _=N.length;rw[aY,aL,fQ]
  lia
def PF{CX:IY}{P:ah}{w:af}{K:aA}{mg:Str->bi}{base:au}{k:Nat}{f:aq}{kV pm ct:aa}
  {osl:Array<|bi} {N ps:ar} {sp:Sp} (lk:K.lookup f=some ⟨oc,od,.func<|PySem.W.fnOf name qual params body scope dV kV doc pm an cdv ct,osl⟩) (hcd:PySem.W.codeIn K cdv qual=true) (S:FnScope N ps scope)
  (len:∀vs H Q E,sp vs H Q E->vs.length=ps.length)
  (Z:∀(A:aC) (outer:List Env) (s:aE) (H:Hp) (vs:List V) (Q:VK) (E:XK),Room k (A.deeper<|envOfC qual scope s.heap.objs.size f cdv)->sp vs H Q E ->
   ∃t,xA (z_ CX P w K mg base N qual scope f cdv A outer s H E) body t/\t { nx:=λ_ H'=>Q .non H',rt:=Q } (start N vs) H) :
  FnOk P w K mg base CX (k+1) f (PySem.W.fnOf name qual params body scope dV kV doc pm an cdv ct) ps sp:=by
 refine⟨len,λA outer s H G us vs Q E hr e0 hb r m=>?_⟩;have O:=len _ _ _ _ m;have F:K.In s.heap:=e0.mod.kin.keeps λb o e=>(e0.bs b o e).1;have z:s.heap.NoLimit:=e0.mod.nolimit.keeps λb o e=>(e0.bs b o e).1;have g:∀y∈ps.zip us,scope.names.lookup y.1=some .local\/(scope.names.lookup y.1=some .cell/\((cellsFrom (s.heap.objs.size+1) scope.names []).lookup y.1).isSome=true):=λ⟨n,v⟩ hy=>by
  rcases S.par n (gZ hy).1 with q|q
  ·exact .inl q
  ·exact .inr ⟨q,d7 _ _ _<|.inl q⟩
 refine codeAny_call_function hr.depth (F _ _ lk) rfl S.co S.gen rfl (PySem.W.codeRec_of F hcd)<|hb _ _ _ _ ?_;refine wpAny_newFunctionEnv_cells S.kind g λenv M C x=>?_;subst M;refine⟨z.keeps x.toInCall.keep,codeAny_func ?_⟩;obtain⟨t,U,L⟩:=Z A outer s H vs Q E (hr.deeper _) m;have I:Inv (z_ CX P w K mg base N qual scope f cdv A outer s H E) [] (start N vs) H C:=Dm S hr.hd e0 O r x;refine c9 (U [] C (start N vs) H _ I L) (λfl s' hs=>?_) λe s' hs=>hs;have j:∀{d:St} {H':Hp} {v:V} {u:aa},Inv (z_ CX P w K mg base N qual scope f cdv A outer s H E) [] d H' s'->RelV v u->Q v H'->CE outer P w H s Q u s':=
  λ{d H' v u} J B q=>⟨v,H',J.os,J.bare,J.base,J.hok,B,q⟩
 cases fl with
 | ret u=>
  obtain⟨v,d,H',J,B,q⟩:=hs;exact j J B q
 | next=>
  obtain⟨d,H',J,q⟩:=hs;exact j (v:=V.non) (u:=Value.none) J rfl q
 | brk=>
  obtain⟨_,_,_,q⟩:=hs;exact False.elim q
 | cont=>
  obtain⟨_,_,_,q⟩:=hs;exact False.elim q
section
variable {X:Cx}{x:Str}{p pos:Pos}{e:aF}{es:List aF}{t:TA}{id T:String}{r:List V->Hp->VK->Prop}
abbrev RX (r:List V->Hp->VK->Prop)(t:TA):TE:=λσ H Q=>t σ H λd H1=>r d H1 Q
def IB(hc:jc X (.builtin id) r)(hg:Gl X x)(hm:X.mg x=none)(hv:bootBuiltins x=some (.builtin id))(L:PA X (e::es) t)(hn:x ≠ "__name__"<|>δ)(j:(x == ("__debug__" : Str))=false<|>δ)
  (M:starEach (e::es) X.env=(false,eval e X.env)::starEach es X.env<|>ε) (J:((backTo pos<|starEach es X.env).any (·.1)=false)<|>ε):PE X (.Call (.Name x p) (e::es) [] pos) (RX r t):=by
 w_up;refine gy<|pF I hg hm hv ?_ hn j;exact PyProof.Rows.callWith_builtin1 (ju (L pos pins s σ H _ I h) λus f ⟨d,H1,I1,r1,g⟩=>hc pins f σ H1 d us Q I1 r1 g) M J
def Ec(hc:jc X (.type T) r)(hg:Gl X x)(hm:X.mg x=none)(hv:bootBuiltins x=some (.type T))(L:PA X (e::es) t)(hn:x ≠ "__name__"<|>δ)(j:(x == ("__debug__" : Str))=false<|>δ)
  (M:starEach (e::es) X.env=(false,eval e X.env)::starEach es X.env<|>ε) (J:((backTo pos<|starEach es X.env).any (·.1)=false)<|>ε):PE X (.Call (.Name x p) (e::es) [] pos) (RX r t):=by
 w_up;refine gy<|pF I hg hm hv ?_ hn j;exact cG (ju (L pos pins s σ H _ I h) λus f ⟨d,H1,I1,r1,g⟩=>hc pins f σ H1 d us Q I1 r1 g) M J
end
end L2
namespace HT
open PySem PyProof.Rows
section
variable {prog:ah}{w:af}{A:aC}{E:aa->aE->Prop}{s:aE}
def Ji{t:aq}{vs ws:ba}{Q:aa->aE->Prop}(J:IsTup s.heap t vs.toArray)(hb:IsTup s.heap b ws.toArray)(hv:vs≠[])
  (h1:ws=[]->Q (.ref t) s) (h2:ws≠[]->Q (.ref s.heap.objs.size) { s with heap:=s.heap.push { cls:=.type "tuple",data:=.seq (vs++ws).toArray }})
  (hsz:vs.length+ws.length<=sizeLine):wpAny (model prog w) A (binaryOp .Add (.ref t)<|.ref b) Q E s:=by
 obtain⟨⟨cls,dd,data,C⟩,m,hc,n,hd⟩:=id J;obtain⟨⟨F,k,z,g⟩,d,j,B,f⟩:=id hb;simp only at hc hd j f;subst hc hd j f;have e:vs.toArray++ws.toArray=(vs++ws).toArray:=by simp
 by_cases hw:ws=[]
 ·exact concat_meets ⟨_,m,rfl⟩ ⟨_,d,rfl⟩ noFill_tuple_add seq_tuple_add fH fE (ff _ _)
   (tuple_addW1 t b vs.toArray ws.toArray n B dd k C g (by simpa using hv)<|by simp[hw]) ⟨m,d,h1 hw⟩
 ·refine concat_meets ⟨_,m,rfl⟩ ⟨_,d,rfl⟩ noFill_tuple_add seq_tuple_add fH fE (ff _ _)
   (tuple_addW2 t b vs.toArray ws.toArray n B dd k C g (by simpa using hv) (by simpa using hw)<|by rw[aW,aW];exact hsz) ⟨m,d,?_⟩
  rw[e];exact h2 hw
abbrev kO (n d:Nat):bj->Nat
 | none=>d
 | some v=>if v<0 then(v+(n:Int)).toNat else min v.toNat n
def FQ(n d:Nat):kO n d none=d:=rfl
def Jv(n d k:Nat):kO n d (some (k:Int))=min k n:=by
 show(if (k:Int)<0 then((k:Int)+(n:Int)).toNat else min (k:Int).toNat n)=min k n;rw[aU (),gF]
def N_(n d:Nat)(hd:d<=n)(o:bj):kO n d o<=n:=by
 cases o with
 | none=>exact hd
 | some v=>
  show(if v<0 then(v+(n:Int)).toNat else min v.toNat n)<=n;by_cases hv:v<0
  ·rw[aR hv];lia
  ·rw[aU hv];exact Nat.min_le_right _ _
def A7(v:Int)(n d:Nat):(if v<0 then max (v+(n:Int)) 0 else min v (n:Int))=((kO n d (some v):Nat):Int):=by
 show(if v<0 then max (v+(n:Int)) 0 else min v (n:Int))=(((if v<0 then(v+(n:Int)).toNat else min v.toNat n):Nat):Int);by_cases hv:v<0
 ·dsimp[aR hv];lia
 ·dsimp[aU hv];lia
def zY(lo hi:bj)(n:Nat):Builtin.Slice.sliceAdjust lo hi 1 (n:Int)=(((kO n 0 lo:Nat):Int),((kO n n hi:Nat):Int)):=by
 have h1:¬((1:Int)<0):=()
 unfold Builtin.Slice.sliceAdjust;dsimp[h1,cY];refine ig ?_ ?_
 ·cases lo with
  | none=>rfl
  | some v=>exact A7 v n 0
 ·cases hi with
  | none=>rfl
  | some v=>exact A7 v n n
def Ac(i j:Nat):Builtin.Slice.slicePlaces (i:Int) (j:Int) 1=j-i:=by
 unfold Builtin.Slice.slicePlaces;have h1:(1:Int)>0:=()
 dsimp[h1,d8,ediv_one];split<;>lia
def u5{v:aa}{Q:bj->aE->Prop}(p:IsPart v o)(h:Q o s):wpAny (model prog w) A (Builtin.Slice.slicePartIndex v) Q E s:=by
 cases p with
 | none=>exact slicePart_none h
 | int i t=>exact slicePart_int h
def sF{vl:aa}{lo hi:bj}{n:Nat}{Q:Int×Int×Nat->aE->Prop}(hs:s.heap.IsSliceOf sl vl vu .none)(j:IsPart vl lo)(J:IsPart vu hi)
  (h:Q (((kO n 0 lo:Nat):Int),1,kO n n hi-kO n 0 lo) s):wpAny (model prog w) A (Builtin.Slice.sliceApplied (.ref sl)<|pure (n:Int)) Q E s:=by
 obtain⟨os,d,f,hds⟩:=id hs;unfold Builtin.Slice.sliceApplied Builtin.Slice.sliceFields;refine aJ<|aJ<|f_ d hds (x:=vl) rfl<|aJ<|f_ d hds (x:=vu) rfl<|aJ<|f_ d hds (x:=.none) rfl<|aO ?_;refine aJ (slicePart_none ?_)
 skip
 rw[aU ⋯];refine aJ<|u5 j<|aJ<|u5 J<|aJ<|aO ?_;show wpAny _ _ (match Builtin.Slice.sliceAdjust lo hi 1 (n:Int)with|(lo,hi)=>pure (lo,(1:Int),Builtin.Slice.slicePlaces lo hi 1)) _ _ s;rw[zY lo hi n];show wpAny _ _ (pure (((kO n 0 lo:Nat):Int),(1:Int),Builtin.Slice.slicePlaces ((kO n 0 lo:Nat):Int) ((kO n n hi:Nat):Int) 1)) _ _ s;rw[Ac];exact aO h
def G6(xs:Array aa)(i k:Nat):((List.range k).filterMap λ(m:Nat)=>xs[((i:Int)+(m:Int) * 1).toNat]?).toArray=((xs.toList.drop i).take k).toArray:=by
 have e:(λ(m:Nat)=>xs[((i:Int)+(m:Int) * 1).toNat]?)=λm=>xs[i+m]?:=by
  funext m
  have:((i:Int)+(m:Int) * 1).toNat=i+m:=()
  rw[this]
 rw[e];have:=pick_run xs i k;rw[List.filterMap_map]at this;have e2:((λx=>xs[x]?) ∘ λx=>i+x)=λm=>xs[i+m]?:=rfl;rw[e2]at this;rw[this]
def rD{t:aq}{J:Array aa}{vl:aa}{lo hi:bj}{Q:aa->aE->Prop}(L:IsTup s.heap t J)(hs:s.heap.IsSliceOf sl vl vu .none)(M:IsPart vl lo)(U:IsPart vu hi)
  (hw:¬(kO J.size 0 lo=0/\kO J.size J.size hi=J.size))
  (h:Q (.ref s.heap.objs.size) { s with heap:=s.heap.push { cls:=.type "tuple",data:=.seq ((J.toList.drop<|kO J.size 0 lo).take<|kO J.size J.size hi-kO J.size 0 lo).toArray }})
  (hsz:J.size<=sizeLine):wpAny (model prog w) A (getItem (.ref t)<|.ref sl) Q E s:=by
 have d:sizeOk (.seq ((J.toList.drop<|kO J.size 0 lo).take<|kO J.size J.size hi-kO J.size 0 lo).toArray):=by
  show((J.toList.drop<|kO J.size 0 lo).take<|kO J.size J.size hi-kO J.size 0 lo).toArray.size<=sizeLine;rw[aW,b8,dO,bZ];omega
 have z:kO J.size J.size hi<=J.size:=N_ _ _ (aP _) hi;obtain⟨os,g,f,hds⟩:=id hs;have j:s.TypeIs (.ref sl) "slice" := ⟨os,g,f⟩;unfold getItem
 try with_reducible refine cJ ?_
 first|refine aJ (aO ?_)|skip
 refine aJ<|wpAny_sequenceKey L.typeIs ⋯ ?_;refine aJ (dP (name:=Str.ofString "__getitem__") L.typeIs bY
  (dQ bY L.typeIs entry_tuple_getitem ?_<|args_tuple_getitem _ _))
 show wpAny _ _ (Builtin.Tuple.tupleItemsOf (.ref t) >>= _) _ _ s;refine aJ<|tupleItemsOf_ L ?_;refine aJ<|wpAny_typeOf j ?_;rw[aR ⋯];refine aJ<|sF hs M U ?_;have k:¬((((kO J.size 0 lo:Nat):Int) == 0 && (1:Int) == 1 && (kO J.size J.size hi-kO J.size 0 lo) == J.size)=true):=by
  intro q;rw[c7,c7]at q;have C:((kO J.size 0 lo:Nat):Int)=0:=eq_of_beq q.1.1;have B:kO J.size J.size hi-kO J.size 0 lo=J.size:=eq_of_beq q.2;exact hw ⟨by omega,by omega⟩
 show wpAny _ _ (if (((kO J.size 0 lo:Nat):Int) == 0 && (1:Int) == 1 && (kO J.size J.size hi-kO J.size 0 lo) == J.size)=true then _ else _) _ _ s;rw[aU k,G6]
 first
  | exact aJ (m:=Builtin.Tuple.tupleExact _) (bS (aO ⟨_,rfl,aO h⟩) d)
  | exact aJ (m:=Builtin.Tuple.tupleExact _) (bS (aJ<|aO<|aO ⟨_,rfl,aO h⟩) d)
  | exact aJ (aJ (m:=Builtin.Tuple.tupleExact _)<|bS (aO<|aO ⟨_,rfl,aO h⟩) d)
  | exact aJ<|aJ (m:=Builtin.Tuple.tupleExact _)<|bS (aO ⟨_,rfl,aO h⟩) d
end
end HT
namespace L2
open PySem PySem.Spec PyProof.Rows
meta abbrev TO:=St->Hp->(bj->Hp->Prop)->Prop
abbrev PO (X:Cx)(e:Option aF)(t:TO):Prop:=
 ∀(pins:bt) (s:aE) (σ:St) (H:Hp) (Q:bj->Hp->Prop),Inv X pins σ H s->t σ H Q ->
  wpAny (model X.prog X.w) X.A (evalPart e X.env) (λu s'=>∃o H',Inv X pins σ H' s'/\IsPart u o/\Q o H') X.xe s
abbrev Kr:TO:=λ_ H Q=>Q none H
abbrev Qn (t:TE):TO:=λσ H Q=>t σ H λx H1=>∃i,x=.int i/\Q (some i) H1
def intsAre_of{ns:ag}:∀{us:ba},Vals (ns.map V.int) us->IntsAre us ns:=by
 induction ns with
 | nil=>intro us r;rw[dD]at r;cases r;exact .nil
 | cons n ns d=>
  intro us r;rw[bC]at r
  cases r with
  | cons r1 r2=>
   obtain⟨t,e⟩:=r1;subst e;exact .cons n t<|d r2
section
variable {X:Cx}{e:aF}{te:TE}{lo hi:Option aF}{tl th:TO}{pos p2:Pos}
def KN:PO X none Kr:=by
 w_up;rw[gP];exact aO ⟨none,H,I,.none,h⟩
def Jk(h:PE X e te):PO X (some e) (Qn te):=by
 intro pins s σ H Q I hw;rw[evalPart_some];refine ju (h pins s σ H _ I hw) λu f ⟨x,H1,I1,r1,d⟩=>?_;obtain⟨i,rfl,q⟩:=d;obtain⟨t,rfl⟩:=r1;exact⟨some i,H1,I1,.int i t,q⟩
abbrev Qu (X:Cx)(r:V->bj->bj->Hp->VK->Prop):Prop:=
 ∀(pins:bt) (s:aE) (σ:St) (H:Hp) (x:V) (v vl d:aa) (lo hi:bj) (f:aq) (Q:VK),Inv X pins σ H s->RelV x v->s.heap.IsSliceOf f vl d .none->IsPart vl lo->IsPart d hi->r x lo hi H Q ->
  ∃T id,typeLookup (.type T) "__getitem__" = pure (some<|.builtin id)/\s.TypeIs v T/\wpAny (model X.prog X.w) X.A (getItem v<|.ref f) (EP X pins σ Q) X.xe s
abbrev Tf (r:V->bj->bj->Hp->VK->Prop)(te:TE)(tl th:TO):TE:=λσ H Q=>te σ H λx H1=>tl σ H1 λl H2=>th σ H2 λu d=>r x l u d Q
def Gx{r:V->bj->bj->Hp->VK->Prop}(hr:Qu X r)(J:PE X e te)(L:PO X lo tl)(M:PO X hi th):PE X (.Subscript e (.Slice lo hi none p2) pos) (Tf r te tl th):=by
 w_up;refine Subscript_<|ju (J pins s σ H _ I h) λv m ⟨x,H1,I1,r1,B⟩=>?_;refine wpAny_Slice<|ju (L pins m σ H1 _ I1 B) λvl C ⟨l,H2,j,G,k⟩=>ju (M pins C σ H2 _ j k) λf d ⟨u,g,I3,F,z⟩=>?_;rw[gP];refine aO ?_;have t:Inv X pins σ g { d with heap:=d.heap.push { cls:=.type "slice",data:=.fields #[vl,f,.none]}}:=I3.kept (t':=d.toks) λb ob q=>aQ _ q;obtain⟨T,id,hT,ht,hg⟩:=hr pins { d with heap:=d.heap.push { cls:=.type "slice",data:=.fields #[vl,f,.none]}} σ g x v vl f l u d.heap.objs.size Q t r1 (gz ..) G F z
 skip
 exact tail_any (ops:=[.ref d.heap.objs.size,v]) ht hT hg<|by with_unfolding_all rfl
abbrev yS (xs:List V)(lo hi:bj):List V:=(xs.drop<|HT.kO xs.length 0 lo).take<|HT.kO xs.length xs.length hi-HT.kO xs.length 0 lo
theorem tw(xs:List V)(lo hi:bj):(yS xs lo hi).length<=xs.length:=by
 unfold yS;rw[b8,dO]
 lia
abbrev Rt (K:aA):V->bj->bj->Hp->VK->Prop:=λx lo hi H Q=>∃a xs,x=.ref a/\lW K H a xs /\
 ¬(HT.kO xs.length 0 lo=0/\HT.kO xs.length xs.length hi=xs.length)/\∀p,H p=none->Q (.ref p) (upd H p<|.tup<|yS xs lo hi)
def NH:Qu X (Rt X.K):=by
 intro pins s σ H x v vl t lo hi z Q I rx hs m k h;obtain⟨a,xs,rfl,hx,hw,q⟩:=h
 cases rx
 obtain⟨f,r,g,j⟩:=I.tuple hx;have d:f.toArray.size=xs.length:=by rw[aW];exact r.length.symm
 refine⟨"tuple",_,bY.lookup,g.typeIs,?_⟩;refine HT.rD g hs m k (by rw[d];exact hw) ?_ (by rw[d];exact j);rw[d];refine⟨.ref s.heap.objs.size,_,I.laid (t':=s.toks) (o:=.tup<|yS xs lo hi) (λb ob q=>aQ _ q) (aP _) ?_,rfl,q _<|I.hok.fresh<|aP _⟩;exact⟨bH (tw xs lo hi) j,_,(r.drop<|HT.kO xs.length 0 lo).take<|HT.kO xs.length xs.length hi-HT.kO xs.length 0 lo,mV.new _ _⟩
abbrev Pc (K:aA):R2:=λx y H Q=>∃a b xs ys,x=.ref a/\y=.ref b/\lW K H a xs/\lW K H b ys/\xs≠[]/\xs.length+ys.length<=sizeLine /\
 (ys=[]->Q (.ref a) H)/\(ys≠[]->∀p,H p=none->Q (.ref p) (upd H p<|.tup<|xs++ys))
def Vals.xF(r:Vals xs us):us=[] ↔ xs=[]:=by
 cases r with
 | nil=>simp
 | cons _ _=>simp
def JB:lV X (binaryOp .Add) (Pc X.K):=by
 kcj_m;obtain⟨a,b,xs,ys,rfl,rfl,g,hb,hx,f,m,j⟩:=h
 cases rx
 cases ry
 obtain⟨k,r1,p1,_⟩:=I.tuple g;obtain⟨d,r2,p2,_⟩:=I.tuple hb;refine HT.Ji p1 p2 (λz=>hx<|r1.xF.mp z) (λz=>⟨.ref a,H,I,rfl,m<|r2.xF.mp z⟩) (λz=>?_) (by rw[<- r1.length,<- r2.length];exact f);refine⟨.ref s.heap.objs.size,_,I.laid (t':=s.toks) (o:=.tup<|xs++ys) (λb ob q=>aQ _ q) (aP _) ?_,rfl,j (λw=>z<|r2.xF.mpr w) _<|I.hok.fresh<|aP _⟩;exact⟨by rw[aY];exact f,_,r1.append r2,mV.new _ _⟩
end
abbrev zD (n:Nat)(i:Int):bo:=if 0<=i then(if i<n then some i.toNat else none)else if -(n:Int)<=i then some (i+n).toNat else none
abbrev oM {α:Type}(xs:List α)(i:Int):Option α:=(zD xs.length i).bind λj=>xs[j]?
def BC{n:Nat}{i:Int}(h:zD n i=some j):seqIndex? i n=some j/\j<n/\-(n:Int)<=i/\i<n:=by
 unfold zD at h;by_cases h0:0<=i
 ·rw[aR h0]at h;by_cases h1:i<n
  ·rw[aR h1]at h;have e:i.toNat=j:=aV h;exact⟨by rw[seqIndex_of h0 h1,e],(),(),h1⟩
  ·rw[aU h1]at h;cases h
 ·rw[aU h0]at h;by_cases h1:-(n:Int)<=i
  ·rw[aR h1]at h;have e:(i+n).toNat=j:=aV h;exact⟨by rw[seqIndex_neg () h1,e],(),h1,()⟩
  ·rw[aU h1]at h;cases h
def w4{α:Type}{xs:List α}{i:Int}{v:α}(h:oM xs i=some v):∃j,seqIndex? i xs.length=some j/\xs[j]?=some v/\j<xs.length/\-(xs.length:Int)<=i/\i<xs.length:=by
 unfold oM at h
 cases e:zD xs.length i with
 | none=>rw[e]at h;cases h
 | some j=>
  rw[e]at h;obtain⟨h1,h2,d,f⟩:=BC e;exact⟨j,h1,h,h2,d,f⟩
def J9{α:Type}{xs:List α}{j:Nat}{v:α}(h:xs[j]?=some v):oM xs (j:Int)=some v:=by
 have d:j<xs.length:=(aK.mp h).1;have e:zD xs.length (j:Int)=some j:=by
  unfold zD;rw[aR (),aR ()];simp
 unfold oM;rw[e];exact h
abbrev uc (b:aF):Prop:=∀o i,subscripted b false o i=operate [o,i] (getItem o i)
abbrev K3 (X:Cx)(r:R2):Prop:=
 ∀(f d:aF) (pins:bt) (s:aE) (σ:St) (H:Hp) (x y:V) (v u:aa) (Q:VK),Inv X pins σ H s->RelV x v->RelV y u->r x y H Q ->
  subscripted d false v u=operate [v,u] (getItem v u)->wpAny (model X.prog X.w) X.A (subscriptTail f d v u) (EP X pins σ Q) X.xe s
abbrev LH (X:Cx)(id:String)(r:V->List V->Hp->VK->Prop):Prop:=
 ∀(pins:bt) (s:aE) (σ:St) (H:Hp) (x:V) (xs:List V) (v:aa) (us:ba) (Q:VK),Inv X pins σ H s->RelV x v->Vals xs us->r x xs H Q ->
  wpAny (model X.prog X.w) X.A (call (.builtin id) (v::us)) (EP X pins σ Q) X.xe s
section
variable {X:Cx}{a b:aF}{ta tb:TE}{pos:Pos}
def FY{r:R2}(hr:K3 X r)(j:PE X a ta)(hb:PE X b tb)(hs:uc b):PE X (.Subscript a b pos) (P_ r ta tb):=by
 w_up;exact Subscript_<|MY j hb I h λv u f x y H2 d rx ry q=>hr a b pins f σ H2 x y v u Q d rx ry q<|hs _ _
abbrev QX (K:aA):R2:=λx y H Q=>∃p xs i v,x=.ref p/\y=.int i/\jR K H p xs/\oM xs i=some v/\Q v H
abbrev Rh (K:aA):R2:=λx y H Q=>∃p xs i v,x=.ref p/\y=.int i/\lW K H p xs/\oM xs i=some v/\Q v H
abbrev RU:R2:=λx y H Q=>∃z i c,x=.str z/\y=.int i/\z.length<=sizeLine/\oM z.cps.toList i=some c/\Q (.str ⟨#[c]⟩) H
def BP:K3 X (QX X.K):=by
 intro B k pins s σ H x y v u Q I rx ry h hs;obtain⟨p,xs,i,z,rfl,rfl,J,M,q⟩:=h
 cases rx
 obtain⟨t,rfl⟩:=ry;obtain⟨m,r,C,O⟩:=I.list J;obtain⟨j,h1,h2,P,L,G⟩:=w4 M;obtain⟨w,F,g⟩:=r.get h2;have N:=r.length;have hn:=sC;have d:EP X pins σ Q w s:=⟨z,H,I,g,q⟩;by_cases h0:0<=i
 ·have f:i.toNat=j:=by
   rw[seqIndex_of h0 G]at h1;exact aV h1
  exact item_listR C.isList h0 () (by rw[f];simpa using F) d hs
 ·have f:(i+(m.toArray.size:Int)).toNat=j:=by
   rw[seqIndex_neg () L]at h1;rw[aW,<- N];exact aV h1
  exact subscriptTail_builtinR (x:=w) C.isList.typeIs gG.lookup
   (wpAny_getItem_list_neg (Q:=λr s'=>r=w/\EP X pins σ Q r s') C.isList () (by rw[aW]<;>lia) () (by rw[f];simpa using F) ⟨rfl,d⟩) hs
def ML:K3 X (Rh X.K):=by
 intro k g pins s σ H x y v u Q I rx ry h hs;obtain⟨p,xs,i,z,rfl,rfl,B,C,q⟩:=h
 cases rx
 obtain⟨t,rfl⟩:=ry;obtain⟨F,r,m,N⟩:=I.tuple B;obtain⟨j,h1,h2,O,M,L⟩:=w4 C;obtain⟨w,G,f⟩:=r.get h2;have J:=r.length;have hn:=sC;have d:EP X pins σ Q w s:=⟨z,H,I,f,q⟩;exact subscriptTail_builtinR (x:=w) m.typeIs slot_tuple_getitem.lookup
  (getItem_tuple (j:=j) (Q:=λr s'=>r=w/\EP X pins σ Q r s') m () () (by rw[aW,<- J];exact h1) (by simpa using G) ⟨rfl,d⟩) hs
def ME:K3 X RU:=by
 intro f d pins s σ H x y v u Q I rx ry h hs;obtain⟨z,i,c,rfl,rfl,C,m,q⟩:=h;obtain⟨t,rfl⟩:=rx;obtain⟨F,rfl⟩:=ry;obtain⟨j,h1,h2,G,k,g⟩:=w4 m;have B:z.cps.toList.length=z.length:=by simp[Str.length]
 rw[B]at h1 k g;have hn:=sC;exact tail_any (typeIs_str s z t) slot_str_getitem.lookup (getItem_str (c:=c) (by
  have e1:decide (i < -(2 ^ 63:Int))=false:=bw ();have e2:decide (i>=2 ^ 63)=false:=bw ();rw[e1,e2,Bool.or_false]) (by rw[h1];simpa using h2) ⟨.str ⟨#[c]⟩,H,I.tok _,⟨_,rfl⟩,q⟩) hs
def Ae(its:ba)(n j:Nat)(u:aa):Obj.mapSeq (·.setIfInBounds j u) { cls:=.type "list",data:=.seq its.toArray n }={ cls:=.type "list",data:=.seq (its.set j u).toArray n }:=by
 simp[Obj.mapSeq]
def Inv.lst{H:Hp}{s:aE}{p:aq}{xs:List V}(I:Inv X pins σ H s)(h:H p=some (.lst xs)) :
  ∃(its:ba) (n:Nat),Vals xs its/\s.heap.get? p=some { cls:=.type "list",data:=.seq its.toArray n }/\xs.length<=sizeLine:=by
 obtain⟨z,its,n,r,e⟩:=I.hok p _ h;exact⟨its,n,r,e,z⟩
def Inv.M_{H:Hp}{s:aE}{p:aq}{ys:List V}{its its':ba}{n:Nat}{f:Obj->Obj}(I:Inv X pins σ H s)(h:H p=some (.lst xs))
  (j:s.heap.get? p=some { cls:=.type "list",data:=.seq its.toArray n }) (hf:f { cls:=.type "list",data:=.seq its.toArray n }={ cls:=.type "list",data:=.seq its'.toArray n' }) (r:Vals ys its') (J:ys.length<=sizeLine) (t:Nat) :
  Inv X pins σ (upd H p<|.lst ys) { s with heap:=s.heap.update p f,toks:=t }:=by
 have e:(s.heap.update p f).get? p=some { cls:=.type "list",data:=.seq its'.toArray n' }:=by
  rw[fR f j<|by rw[hf]<;>rfl,hf]
 refine I.write (x:=p) (e:=p) (by rw[h];trivial) (.inl rfl) (λb u hb q=>(Heap.get?_update_other _ _<|b_ hb).trans q) ⟨_,e⟩ ?_;exact⟨J,its',n',r,e⟩
abbrev OM:V->V->V->Hp->(Hp->Prop)->Prop:=λo i v H Q=>∃p xs k j,o=.ref p/\i=.int k/\H p=some (.lst xs)/\zD xs.length k=some j/\Q (upd H p<|.lst<|xs.set j v)
def set_list:Ez X OM:=by
 intro pins s σ H o i v N M u Q I F K L h;obtain⟨p,xs,k,j,rfl,rfl,hp,G,q⟩:=h
 cases F
 obtain⟨t,rfl⟩:=K;obtain⟨d,n,r,m,J⟩:=I.lst hp;obtain⟨h1,h2,B,z⟩:=BC G;have g:=r.length;have hn:=sC;have C:Inv X pins σ (upd H p<|.lst<|xs.set j v) { s with heap:=s.heap.update p<|Obj.mapSeq (·.setIfInBounds j u)}:=
  I.M_ hp m (Ae d n j u) (r.set L j) (by rw[bG];exact J) s.toks
 by_cases h0:0<=k
 ·have f:k.toNat=j:=by
   rw[seqIndex_of h0 z]at h1;exact aV h1
  exact PySem.W.ki_setAt m h0 () (by rw[aW,<- g];exact z)<|by rw[f];exact⟨_,C,q⟩
 ·have f:(k+(d.toArray.size:Int)).toNat=j:=by
   rw[seqIndex_neg () B]at h1;rw[aW,<- g];exact aV h1
  exact PySem.W.ki_setBack m () (by rw[aW,<- g];exact B) ()<|by rw[f];exact⟨_,C,q⟩
def wu(lo hi:bj)(n:Nat):(sliceBounds lo hi none n).1=((HT.kO n 0 lo:Nat):Int)/\(sliceBounds lo hi none n).2.1=((HT.kO n n hi:Nat):Int)/\(sliceBounds lo hi none n).2.2=1:=by
 refine⟨?_,?_,rfl⟩
 ·cases lo with
  | none=>simp[sliceBounds,HT.kO]
  | some i=>
   dsimp[sliceBounds,HT.kO,getD_none,show(1:Int)>0 by decide,d8];by_cases h:i<0
   ·dsimp[h,d8]<;>lia
   ·dsimp[h,cY]<;>lia
 ·cases hi with
  | none=>simp[sliceBounds,HT.kO]
  | some i=>
   dsimp[sliceBounds,HT.kO,getD_none,show(1:Int)>0 by decide,d8];by_cases h:i<0
   ·dsimp[h,d8]<;>lia
   ·dsimp[h,cY]<;>lia
def vA(its:ba)(lo hi:bj):slicePick its.toArray lo hi none=((its.drop<|HT.kO its.length 0 lo).take<|HT.kO its.length its.length hi-HT.kO its.length 0 lo).toArray:=by
 obtain⟨h1,h2,d⟩:=wu lo hi its.toArray.size;unfold slicePick;rw[h1,h2,d];dsimp[sliceRange_one,pick_run,aW]<;>rfl
abbrev QV (K:aA):V->bj->bj->Hp->VK->Prop:=λx lo hi H Q=>∃a xs,x=.ref a/\jR K H a xs/\∀p,H p=none->Q (.ref p) (upd H p<|.lst<|yS xs lo hi)
def Bk:Qu X (QV X.K):=by
 intro pins s σ H x v vl t lo hi z Q I rx hs m k h;obtain⟨a,xs,rfl,hx,q⟩:=h
 cases rx
 obtain⟨g,r,f,j⟩:=I.list hx;have d:=r.length;refine⟨"list",_,gG.lookup,f.isList.typeIs,?_⟩;refine wpAny_getItem_list_slice f.isList hs m k .none (by simp) ?_ (by rw[aW]<;>lia);rw[vA,<- d];refine⟨.ref s.heap.objs.size,_,I.laid (t':=s.toks) (o:=.lst<|yS xs lo hi) (λb ob q=>aQ _ q) (aP _) ?_,rfl,q _<|I.hok.fresh<|aP _⟩;exact⟨bH (tw xs lo hi) j,_,0,(r.drop<|HT.kO xs.length 0 lo).take<|HT.kO xs.length xs.length hi-HT.kO xs.length 0 lo,bI _ rfl⟩
def nY:jc X (.type "list") (λxs H Q=>∃p ys,xs=[.ref p]/\(jR X.K H p ys\/lW X.K H p ys)/\∀l,H l=none->Q (.ref l) (upd H l<|.lst ys)):=by
 kt_k;obtain⟨p,ys,rfl,j,q⟩:=h;kst_p
 cases rx
 have k:∀(d:ba),Vals ys d->ys.length<=sizeLine->∀(h':au) (g:Nat),(∀b o',s.heap.get? b=some o'->h'.get? b=some o') ->
   h'.get? s.heap.objs.size=some { cls:=.type "list",dict:=none,data:=.seq d.toArray g,slots:=#[]}->EP X pins σ Q (.ref s.heap.objs.size) { s with heap:=h' }:=λd f m h' g kp e=>
  ⟨.ref s.heap.objs.size,_,I.laid (t':=s.toks) kp (aP _)<|show jq X.prog X.w _ h' _ (.lst ys)from⟨m,d,g,f,e⟩,rfl,q _<|I.hok.fresh<|aP _⟩
 rcases j with j|j
 ·obtain⟨d,f,B,m⟩:=I.list j;have t:=f.length;obtain⟨o,z,hc,n,hd⟩:=B.isList;exact call_list_seq p (.inl rfl) z hc hd (λh' g kp e=>k d f m h' g kp e) (by dsimp[aW]<;>lia)
 ·obtain⟨d,f,B,m⟩:=I.tuple j;have t:=f.length;obtain⟨o,z,hc,n,hd⟩:=B;exact call_list_seq p (.inr rfl) z hc hd (λh' g kp e=>k d f m h' g kp e)<|by dsimp[aW]<;>lia
abbrev OO (K:aA)(T:String)(x:V)(H:Hp):Prop:=match x with
 | .str _=>T = "str"
 | .int _=>T = "int"
 | .ref p=>(T = "list" /\ ∃xs,jR K H p xs)\/(T = "tuple" /\ ∃o,K.lookup p=some o/\o.cls=.type "tuple" /\ o.dict=none) \/
   (T = "dict" /\ ((∃kvs,H p=some (.dK kvs))\/∃kvs,H p=some (.dT kvs)))\/(T = "set" /\ ∃S n,H p=some (.set S n))
 | _=>False
def Fo{H:Hp}{s:aE}{x:V}{v:aa}(I:Inv X pins σ H s)(r:RelV x v)(ty:OO X.K T x H) :
  s.TypeIs v T/\∀a,v=.ref a->∃ob,s.heap.get? a=some ob/\ob.dict=none:=by
 cases x with
 | str z=>
  obtain⟨t,rfl⟩:=r
  cases(show T = "str" from ty)
  exact⟨typeIs_str s z t,nofun⟩
 | int i=>
  obtain⟨t,rfl⟩:=r
  cases(show T = "int" from ty)
  exact⟨typeIs_int s i t,nofun⟩
 | ref p=>
  cases r
  rcases ty with⟨rfl,xs,g⟩|⟨rfl,o,d,hc,hd⟩|⟨rfl,d⟩|⟨rfl,S,n,d⟩
  ·obtain⟨j,_,f,_⟩:=I.list g;refine⟨f.isList.typeIs,λa e=>?_⟩
   cases e
   obtain⟨o,n,e,c,hd,_⟩:=f;exact⟨o,e,hd⟩
  ·refine⟨⟨o,I.xR p o d,hc⟩,λa e=>?_⟩
   cases e
   exact⟨o,I.xR _ o d,hd⟩
  ·have z:∃o,s.heap.get? p=some o/\o.ExactDict:=by
    rcases d with⟨kvs,d⟩|⟨kvs,d⟩
    ·obtain⟨_,_,_,_,o,_,_,e,ex,_⟩:=I.hok p _ d;exact⟨o,e,ex⟩
    ·obtain⟨_,_,_,_,o,_,_,e,ex,_⟩:=I.hok p _ d;exact⟨o,e,ex⟩
   obtain⟨o,e,ex⟩:=z;refine⟨⟨o,e,ex.1⟩,λa e2=>?_⟩
   cases e2
   exact⟨o,e,ex.2.1⟩
  ·obtain⟨o,_,_,_,e,ex,_⟩:=I.hok p _ d;refine⟨⟨o,e,ex.1⟩,λa e2=>?_⟩
   cases e2
   exact⟨o,e,ex.2.1⟩
 | _=>exact False.elim ty
abbrev RM (K:aA)(T:String)(r:V->List V->Hp->VK->Prop)(to:TE):TE:=λσ H Q=>to σ H λx H1=>OO K T x H1/\r x [] H1 Q
abbrev Tr (K:aA)(T:String)(r:V->List V->Hp->VK->Prop)(to:TE)(t:TA):TE:=λσ H Q=>to σ H λx H1=>OO K T x H1/\t σ H1 λxs H2=>r x xs H2 Q
variable {o e:aF}{es:List aF}{to:TE}{t:TA}{name:Str}{apos cpos:Pos}{T id:String}{r:V->List V->Hp->VK->Prop}
def MA(M:PlainAttrs T)(slot:Slot T name id)(L:typeOf (.builtin id)=pure (.type "method_descriptor"))(hm:LH X id r)(U:PE X o to)
  (j:attributeBase o name X.env (eval o X.env)=eval o X.env<|>ε) (J:(apos.endLine == cpos.line)=true<|>ε):PE X (.Call (.Attribute o name apos) [] [] cpos) (RM X.K T r to):=by
 w_up;refine wpAny_Call_method0_late j J<|ju (U pins s σ H _ I h) λv d ⟨x,H1,I1,r1,ty,f⟩=>?_;obtain⟨h1,h2⟩:=Fo I1 r1 ty;exact⟨T,id,M,slot,L,h1,h2,Calls.callWith_builtin rfl<|PySem.evalArgs_none<|hm pins d σ H1 x [] v [] Q I1 r1 .nil f⟩
def L_(pa:PlainAttrs T)(slot:Slot T name id)(Z:typeOf (.builtin id)=pure (.type "method_descriptor"))(hm:LH X id r)(ho:PE X o to)(ha:PA X (e::es) t)
  (L:attributeBase o name X.env (eval o X.env)=eval o X.env<|>ε)
  (U:(((backTo cpos<|starEach (e::es) X.env).all (λx=>!x.1) && (backToKw cpos<|keywordEach [] X.env).all (λx=>x.1.isSome)
   && decide ((e::es).length+([]:List Keyword).length+(if ([]:List Keyword).isEmpty then 0 else 1)<30))=true)<|>ε)
  (M:(apos.endLine == cpos.line)=true<|>ε) (hs:starEach (e::es) X.env=(false,eval e X.env)::starEach es X.env<|>ε) (J:((backTo cpos<|starEach es X.env).any (·.1)=false)<|>ε) :
  PE X (.Call (.Attribute o name apos) (e::es) [] cpos) (Tr X.K T r to t):=by
 w_up;refine wpAny_Call_method_late L U M rfl<|ju (ho pins s σ H _ I h) λv m ⟨x,H1,I1,r1,ty,z⟩=>?_;obtain⟨h1,h2⟩:=Fo I1 r1 ty;refine⟨T,id,pa,slot,Z,h1,h2,?_⟩;have d:=ha cpos pins m σ H1 _ I1 z;rw[hs]at d ⊢;refine Calls.callWith_builtin (by show(false || (backTo cpos<|starEach es X.env).any (·.1))=false;rw[J]<;>rfl)<|Calls.evalArgs_plain ?_;exact ju d λus j ⟨f,H2,g,r2,k⟩=>hm pins j σ H2 x f v us Q g r1 r2 k
end
abbrev RZ (X:Cx)(id:String)(r:V->List V->Hp->VK->Prop):Prop:=
 ∀(pins:bt) (s:aE) (σ:St) (H:Hp) (x:V) (xs:List V) (v:aa) (us:ba) (Q:VK),Inv X pins σ H s->RelV x v->Vals xs us->r x xs H Q ->
  wpAny (model X.prog X.w) X.A (call (.builtin id) (v::us)) (EP X pins σ Q) X.xe s
def Vals.one:∀{x:V}{us:ba},Vals [x] us->∃u,us=[u]/\RelV x u
 | _,_,.cons r .nil=>⟨_,rfl,r⟩
def Vals.zero:∀{us:ba},Vals [] us->us=[]
 | _,.nil=>rfl
def Vals.dropLast{xs:List V}{us:ba}(h:Vals xs us):Vals xs.dropLast us.dropLast:=by
 induction h with
 | nil=>exact .nil
 | cons r t d=>
  cases t with
  | nil=>exact .nil
  | cons q f=>exact .cons r d
def Vals.reverse{xs:List V}{us:ba}(h:Vals xs us):Vals xs.reverse us.reverse:=by
 induction h with
 | nil=>exact .nil
 | cons r t d=>rw[fJ,fJ];exact Vals.append d<|.cons r .nil
theorem Vals.rep(h:Vals xs us):∀k:Nat,Vals (List.replicate k xs).flatten (List.replicate k us).flatten
 | 0=>.nil
 | k+1=>by
  rw[cK,cK,bQ,bQ];exact Vals.append h<|Vals.rep h k
def Ag{α:Type}(l:List α):l.eraseIdx (l.length-1)=l.dropLast:=by
 induction l with
 | nil=>rfl
 | cons a r d=>
  cases r with
  | nil=>rfl
  | cons b r=>
   have e:(a::b::r).length-1=((b::r).length-1)+1:=by
    have h1:(a::b::r).length=r.length+2:=rfl;have h2:(b::r).length=r.length+1:=rfl
    lia
   rw[e,List.eraseIdx_cons_succ,d]
   all_goals rfl
theorem foldl_rep(its:ba):∀(k:Nat) (acc:ba),
  List.foldl (λx1 x2=>x1++x2) acc.toArray (List.replicate k its.toArray)=(acc++(List.replicate k its).flatten).toArray
 | 0,acc=>by simp
 | k+1,acc=>by
  have e:acc.toArray++its.toArray=(acc++its).toArray:=by simp
  have e2:(acc++its)++(List.replicate k its).flatten=acc++(List.replicate (k+1) its).flatten:=by
   rw[cK,bQ,bg]
  rw[<- e2,<- foldl_rep its k (acc++its),<- e,cK,List.foldl_cons]
section
variable {X:Cx}{pins:bt}{σ:St}{H:Hp}{s:aE}{l:aq}{xs ys:List V}
def Inv.OZ{its its':ba}{n:Nat}{f:Array aa->Array aa}{t':Nat}(I:Inv X pins σ H s)(j:H l=some (.lst xs))
  (e:s.heap.get? l=some { cls:=.type "list",data:=.seq its.toArray n }) (hf:f its.toArray=its'.toArray) (hv:Vals ys its') (J:ys.length<=sizeLine) :
  Inv X pins σ (upd H l<|.lst ys) { s with heap:=s.heap.update l<|Obj.mapSeq f,toks:=t' }:=by
 have q:=PySem.IsL.update e f;rw[hf]at q;refine I.write (x:=l) (e:=l) (by rw[j];exact trivial) (.inl rfl) (λg u hb d=>(Heap.get?_update_other s.heap (Obj.mapSeq f)<|b_ hb).trans d) ⟨_,q⟩ ?_;exact⟨J,its',_,hv,q⟩
def Inv.F1{its:ba}{t':Nat}(I:Inv X pins σ H s)(hv:Vals ys its)(j:ys.length<=sizeLine) :
  Inv X pins σ (upd H s.heap.objs.size<|.lst ys) { s with heap:=s.heap.push { cls:=.type "list",data:=.seq its.toArray },toks:=t' }:=
 I.laid (λ_ _ q=>aQ _ q) (aP _) ⟨j,its,0,hv,bI _ rfl⟩
def Inv.fresh(I:Inv X pins σ H s):H s.heap.objs.size=none:=I.hok.fresh<|aP _
def Inv.Fc(I:Inv X pins σ H s)(j:H l=some (.lst xs)):xs.length<=sizeLine/\∃(its:ba) (n:Nat),Vals xs its/\xs.length=its.length/\s.heap.get? l=some { cls:=.type "list",data:=.seq its.toArray n }:=by
 obtain⟨z,its,n,r,e⟩:=I.hok l _ j;exact⟨z,its,n,r,r.length,e⟩
def HK{n:Nat}(h:n<=sizeLine):Builtin.List.listTooLong n=false:=by
 unfold Builtin.List.listTooLong;exact bw ()
end
section
variable {X:Cx}
abbrev JG:V->List V->Hp->VK->Prop:=λx d H Q=>∃l xs y,x=.ref l/\d=[y]/\H l=some (.lst xs)/\xs.length<sizeLine/\Q .non (upd H l<|.lst<|xs++[y])
def rW:RZ X "list.append" JG:=by
 intro pins s σ H x k v us Q I rx j h;obtain⟨l,xs,y,rfl,rfl,f,t,q⟩:=h
 cases rx
 obtain⟨u,rfl,g⟩:=j.one;obtain⟨z,d,n,r,m,e⟩:=I.Fc f;refine call_meets F.slot_list_append ⟨_,e,rfl⟩ F.entry_list_append (F.args_list_append_2 _ _) (PySem.list_append l d.toArray n u<|by rw[aW];lia) ⟨e,?_⟩;refine⟨.non,_,I.OZ (its':=d++[u]) f e (by simp) (r.append<|.cons g .nil) ?_,rfl,q⟩;rw[aY,List.length_singleton]
 lia
abbrev QT:V->List V->Hp->VK->Prop:=λx d H Q=>∃l xs y,x=.ref l/\d=[]/\H l=some (.lst xs)/\xs[xs.length-1]?=some y/\Q y (upd H l<|.lst xs.dropLast)
def MT:RZ X "list.pop" QT:=by
 intro pins s σ H x C v us Q I rx B h;obtain⟨l,xs,y,rfl,rfl,j,hy,q⟩:=h
 cases rx
 have f:=B.zero;subst f;obtain⟨z,d,n,r,m,e⟩:=I.Fc j;obtain⟨u,k,t⟩:=r.get hy;have g:d.toArray[d.toArray.size-1]?=some u:=by
  show d.toArray[d.length-1]?=some u;rw[<- fS,<- m];exact k
 refine call_meets F.slot_list_pop ⟨_,e,rfl⟩ F.entry_list_pop (F.args_list_pop_1 _) (MeetsSeq.list_pop_last l d.toArray n u g<|by rw[aW];lia) ⟨e,?_⟩;refine⟨y,_,I.OZ (its':=d.dropLast) j e ?_ r.dropLast ?_,t,q⟩
 ·skip
  rw[aW,List.eraseIdxIfInBounds_toArray,Ag]
 ·rw[eK]
  lia
abbrev Q7:R2:=λx y H Q=>∃l b xs zs,x=.ref l/\y=.ref b/\H l=some (.lst xs)/\H b=some (.lst zs)/\xs.length+zs.length<=sizeLine/\∀p,H p=none->Q (.ref p) (upd H p<|.lst<|xs++zs)
def M6:lV X (binaryOp .Add) Q7:=by
 kcj_m;obtain⟨l,b,xs,zs,rfl,rfl,g,m,C,q⟩:=h
 cases rx
 cases ry
 obtain⟨z,f,n,r,B,e⟩:=I.Fc g;obtain⟨t,d,F,r2,k,e2⟩:=I.Fc m;refine PySem.P.add_list e e2 ?_ (by rw[aW,aW];lia);have j:f.toArray++d.toArray=(f++d).toArray:=by simp
 rw[j];exact⟨.ref _,_,I.F1 (t':=s.toks) (r.append r2)<|by rw[aY];lia,rfl,q _ I.fresh⟩
abbrev Q2:R2:=λx y H Q=>∃l k xs,x=.ref l/\y=.int k/\H l=some (.lst xs)/\-(2 ^ 63)<=k/\k<2 ^ 63/\xs.length * k.toNat<=sizeLine /\
 ∀p,H p=none->Q (.ref p) (upd H p<|.lst (List.replicate k.toNat xs).flatten)
def len_rep{α:Type}(xs:List α)(k:Nat):(List.replicate k xs).flatten.length=k * xs.length:=by
 induction k with
 | zero=>simp
 | succ k d=>rw[cK,bQ,aY,d,Nat.succ_mul,Nat.add_comm]
def MX:lV X (binaryOp .Mult) Q2:=by
 kcj_m;obtain⟨l,k,xs,rfl,rfl,L,h1,h2,K,q⟩:=h
 cases rx
 obtain⟨t,rfl⟩:=ry;obtain⟨z,d,n,r,M,e⟩:=I.Fc L;have C:d.toArray.size * k.toNat<=sizeLine:=by rw[aW,<- M];exact K
 have j:¬d.toArray.size * k.toNat>(2 ^ 63-1) / 8:=by
  have:(sizeLine:Nat)<=(2 ^ 63-1) / 8:=by decide
  omega
 have g:¬(!Builtin.List.listFitsIndex k)=true:=by
  rw[fitsIndex_both h1 h2];exact bf
 have f:¬Builtin.List.listTooLong (d.toArray.size * k.toNat)=true:=by
  rw[HK C];exact bf
 have B:List.foldl (λG J=>G++J) #[] (List.replicate (if d.toArray.isEmpty=true then 0 else k.toNat) d.toArray)=(List.replicate k.toNat d).flatten.toArray:=by
  have f0:∀m:Nat,List.foldl (λG J=>G++J) #[] (List.replicate m d.toArray)=(List.replicate m d).flatten.toArray:=λm=>by
   have:=foldl_rep d m [];rw[gh]at this;exact this
  rw[f0]
  cases d with
  | nil=>simp
  | cons a N=>rw[aU<|by simp]
 refine wpAny_binaryOp_repeat_ref (T := "list") (U := "int") ⋯ ⟨_,e,rfl⟩ (λs'=>typeIs_int s' k t) noFill_list_mul F.fills_int_mul F.slot_int_rmul repeat_list F.slot_int_index.lookup
  (call_meets F.slot_int_rmul (typeIs_int s k t) F.entry_int_rmul (F.args_int_rmul_2 _ _) (int___rmul___int_list k t l d.toArray n)
   ⟨e,rfl,⟨_,e,rfl⟩,call_meets F.slot_list_mul ⟨_,e,rfl⟩ F.entry_list_mul (F.args_list_mul_2 _ _) (AutoListH.list___mul___list_int_3 l d.toArray n k t g j f) ⟨e,?_⟩⟩)
 rw[B];exact⟨.ref _,_,I.F1 (t':=s.toks) (r.rep k.toNat)<|by rw[len_rep,Nat.mul_comm];exact K,rfl,q _ I.fresh⟩
end
end L2
namespace Att
open PySem PySem.W PySem.Calls PyProof.Rows
def tN{P:Params}:∀(ns:ag) (vs:ba),WellAll P h vs (ns.map WData.int)->IntsAre vs ns:=by
 intro ns
 induction ns with
 | nil=>
  intro vs w;rw[dD]at w
  cases w
  exact .nil
 | cons n ns d=>
  intro vs w;rw[bC]at w
  cases w with
  | cons a b=>
   cases a
   exact .cons _ _<|d _ b
def Ea{l:OpenLaw}{n:Nat}(hn:l.most=some n){P:Params}{h:au}
  (J:l.row.toRowW.claim.pre args=true) (L:WellAll P h vals args) :
  ∃a vs ns,vals=[Value.ref a]/\args=[WData.list<|ns.map WData.int]/\h.get? a=some { cls:=.type "list",data:=.seq vs.toArray }/\IntsAre vs ns/\ns.length<=n:=by
 have m:WShape.hasAll [] args [.list .int]=true:=(pre_splitW J).1;have hc:l.pre.holds [] { args:=args }=true:=(pre_splitW J).2;obtain⟨d,r,rfl,h1,h2⟩:=hasAllW_cons m;obtain rfl:=hasAllW_nil h2;obtain⟨xs,rfl,B⟩:=hasW_list h1;obtain⟨ns,rfl⟩:=items_int B;have g:ns.length<=n:=by
  unfold OpenLaw.pre at hc;have k:(WTm.not<|.lt (.lit<|.int (n:Int))<|.len<|.arg 0).holds [] { args:=[.list<|ns.map .int]}=true:=by
   have k:=(holds_andW hc).1;rw[hn]at k;exact k
  have j:=condW_of k<|w_not<|w_lt w_lit<|w_len_list<|w_arg rfl;rw[aL]at j;refine Nat.le_of_not_lt λq=>?_;have F:(n:Int)<((ns.length:Nat):Int):=by omega
  first
   | (rw[bu F]at j;exact absurd j ⋯)
   | (simp at j;omega)
 cases L with
 | cons z t=>
  cases t
  cases z with
  | list C f=>exact⟨_,_,ns,rfl,rfl,C,tN ns _ f,g⟩
def DG(l:OpenLaw)(args:List WData):l.row.toRowW.claim.post args (.bool true) args=true:=
 postW_of (r:=l.row.toRowW) (X:=(true == true))
  (show WShape.has [] (.bool true) .bool=true by first|rfl|decide|simp[WShape.has,WShape.arms,WShape.armsAll])
  (show(WTm.eq .res<|.lit<|.bool true).value [] { args:=args,res:=some<|.bool true,after:=args }=some (.bool<|true == true)from w_eq_bool (w_res rfl) w_lit) rfl
def yQ{l:OpenLaw}{n:Nat}{q:ah}{XP:(Str->bi)->au->Prop}{YP:af->au->Prop}{d:DefRec}
  (hn:l.most=some n) (Z:d.params.defaults=[])
  (call:∀(w:af) (s₀ s₁:aE) (mg mb:Str->bi) (fa:aq) (o:Obj) (pm cd doc:aa) (a:aq) (vs:ba) (ns:ag),
   Ground q loose [] XP w s₀ mg mb s₁.heap->YP w s₁.heap ->
   s₁.heap.get? fa=some o->o.data=.func (docDef d.name d.params d.body d.scope pm cd doc)->s₁.heap.CodeRec cd d.name->mg d.name=some (.ref fa) ->
   s₁.heap.get? a=some { cls:=.type "list",data:=.seq vs.toArray }->IntsAre vs ns->ns.length<=n->s₁.gens=#[] ->
   codeAny (model l.prog w) callerA (.call (.ref fa) ⟨[.ref a],[]⟩) (λr s'=>r=.ok (.ret<|.bool true)/\OldK s₁.heap s'.heap/\s'.os=s₁.os/\AllBare s'.gens) s₁) :
  WalkO q loose XP YP l.row.toRowW d [] (λf vs=>PySem.call f vs):=by
 intro w s₀ s₁ mg mb G Y fa o pm cd doc M kV U hd t C z hg F K W k J V B N;obtain rfl:M=.none:=Dflts.none C Z;obtain rfl:kV=.none:=Dflts.noKw C;obtain⟨a,vs,ns,rfl,rfl,j,g,m⟩:=Ea hn k B;refine enter_call<|gv (call w s₀ s₁ mg mb fa o pm cd doc a vs ns G Y U (fd_plain hd) t z j g m hg) λr s' L=>?_;obtain⟨rfl,h2,P,O⟩:=L;exact⟨.inl ⟨.bool true,.bool true,[],rfl,λ_=>rfl,.bool true,DG l _,λ_=>⟨List.Pairwise.nil,λ_ hm=>(nomatch hm)⟩⟩,h2,P,O⟩
end Att
namespace L2
open PySem PySem.Spec PyProof.Rows
theorem sL:∀{vs:ba}{ns:ag},IntsAre vs ns->Vals (ns.map V.int) vs
 | _,_,.nil=>.nil
 | _,_,.cons n t h=>.cons ⟨t,rfl⟩<|sL h
abbrev KS (H:Hp):Prop:=∀b,H b=none\/∃o xs,H b=some (.frz o<|.lst xs)
def Ih{P:ah}{w:af}{K:aA}{mg mb:Str->bi}{CX:IY}{k:Nat}{fa a:aq}{x:Str}{sp:Sp}{s₁:aE}{vs:ba}{ns:ag}
  (KX:K.In s₁.heap) (hns:s₁.heap.Ns mainGlobals mg) (hb:s₁.heap.Ns builtinsNs mb) (hbb:∀x:Str,x ≠ "__name__" -> mb x=bootBuiltins x) (hlim:s₁.heap.NoLimit) (hg:s₁.gens=#[])
  (ha:s₁.heap.get? a=some { cls:=.type "list",data:=.seq vs.toArray }) (hi:IntsAre vs ns) (hl:ns.length<=sizeLine) (hr:Room k callerA)
  (F:∀base:au,K.In base->base.Ns mainGlobals mg->FnOk P w K mg base CX k fa fd [x] sp) (hbind:∀(s:aE) (u:aa),BindsTo s fd ⟨[u],[]⟩ [(x,u)])
  (hsp:∀H:Hp,KS H->jR K H a (ns.map V.int)->sp [.ref a] H (λv _=>v=.bl true) λ_ _ _=>False)
  (hCX:∀H e s',CX [] H s₁ (λ_ _ _=>False) e s'->False) :
  codeAny (model P w) callerA (.call (.ref fa) ⟨[.ref a],[]⟩) (λr s'=>r=.ok (.ret<|.bool true)/\OldK s₁.heap s'.heap/\s'.os=s₁.os/\AllBare s'.gens) s₁:=by
 have N:=sL hi;have t:=hi.length;have j:∀H:Hp,KS H->jR K H a (ns.map V.int)->qN P w H s₁.heap->(∀b,H b≠none->b=a)->(H a≠none->K.lookup a=none) ->
   codeAny (model P w) callerA (.call (.ref fa) ⟨[.ref a],[]⟩) (λr s'=>r=.ok (.ret<|.bool true)/\OldK s₁.heap s'.heap/\s'.os=s₁.os/\AllBare s'.gens) s₁:=by
  intro H U hS hok O hK;have f:∀{b:aq} {o:Obj},s₁.heap.get? b=some o->H b=none->(w_ s₁.heap H).get? b=some o:=λe n=>IV e n;have M:∀{b:aq} {o:Obj} {es:Array DictEntry} {ep:Nat},s₁.heap.get? b=some o->o.data=.dict es ep->H b=none:=λ{b o es ep} e d=>by
   cases q:H b with
   | none=>rfl
   | some u=>
    have L:b=a:=O b (by rw[q];simp);subst L;rw[ha]at e;cases e;have d':Data.seq vs.toArray _=Data.dict es ep:=d
    cases d'
  have g:∀{b:aq} {m:Str->bi},s₁.heap.Ns b m->(w_ s₁.heap H).Ns b m:=λ{b m} ⟨o,es,ep,e,d,r⟩=>⟨o,es,ep,f e<|M e d,d,r⟩;have B:K.In (w_ s₁.heap H):=λb o e=>f (KX b o e) (by
   cases q:H b with
   | none=>rfl
   | some u=>
    have L:b=a:=O b (by rw[q];simp);subst L;rw[hK<|by rw[q];simp]at e;cases e)
  have W:Mod K mg (w_ s₁.heap H):=⟨B,g hns,⟨mb,g hb,hbb⟩,let⟨mc,h1,h2⟩:=hlim;⟨mc,g h1,h2⟩⟩;have e0:Env0 P w K mg (w_ s₁.heap H) callerA [] s₁ H:=⟨rfl,W,λb o e=>Jr e,Nat.le_of_eq<|DH _ _,trivial,λb hb=>absurd (show b∈([]:bd)from hb)<|by simp,hok,.of_eq hg⟩;refine gv ((F _ B<|g hns).run callerA [] s₁ H ⟨[.ref a],[]⟩ [.ref a] [.ref a] _ _ hr e0 (hbind s₁<|.ref a) (.cons rfl .nil)<|hsp H U hS) λr s' h=>?_
  cases r with
  | error e=>exact(hCX H e s' h).elim
  | ok fl=>
   cases fl with
   | next=>exact False.elim h
   | brk=>exact False.elim h
   | cont=>exact False.elim h
   | ret u=>
    obtain⟨v,H',os,bare,un,G,r',q⟩:=h;have Z:v=.bl true:=q;subst Z;obtain rfl:u=Value.bool true:=r';refine⟨rfl,OldK.of_keep λb o e=>?_,os,bare⟩
    cases q:H b with
    | none=>exact un.keep b o e q (by intro z;exact absurd (show b∈([]:bd)from z)<|by simp) (by simp)
    | some u=>
     rcases U b with z|⟨ob,xs,z⟩
     ·rw[q]at z;cases z
     ·have Y:=un.frzs b ob _ z;obtain⟨e1,_⟩:=hok b _ z;obtain⟨e2,_⟩:=G b _ Y;rw[e]at e1;cases e1;exact e2
 cases J:K.lookup a with
 | some o=>
  have e:=KX a o J;rw[ha]at e
  cases e
  refine j (λ_=>none) (λ_=>.inl rfl) (.inr ⟨_,vs.toArray,_,J,rfl,rfl,rfl,by rw[aW,t];exact hl,by simpa using N⟩) (λb u z=>by have C:(none:Option HO)=some u:=z;cases C) (λb z=>absurd rfl z) λz=>absurd rfl z
 | none=>
  refine j (λb=>if b=a then some (.frz { cls:=.type "list",data:=.seq vs.toArray } (.lst<|ns.map V.int))else none) (λb=>?_) (.inl<|.inr ⟨{ cls:=.type "list",data:=.seq vs.toArray },aR rfl⟩) (λb u z=>?_) (λb z=>?_) λ_=>J
  ·by_cases hb:b=a
   ·exact .inr ⟨_,_,aR hb⟩
   ·exact .inl<|aU hb
  ·by_cases hb:b=a
   ·have C:=(aR hb).symm.trans z
    cases C
    subst hb;exact⟨ha,by rw[aL];exact hl,vs,_,N,ha⟩
   ·have C:=(aU hb).symm.trans z
    cases C
  ·by_cases hb:b=a
   ·exact hb
   ·exact absurd (aU hb) z
def JQ{l:PySem.W.OpenLaw}{n k:Nat}{q:ah}{XP:(Str->bi)->au->Prop}{YP:af->au->Prop}{d:DefRec}{K:Params->aA}{CX:af->IY}{sp:af->Sp}{x:Str}
  (hn:l.most=some n) (hn2:n<=sizeLine) (hdf:d.params.defaults=[]) (hr:Room k callerA)
  (hY:∀(w:af) (h:au),YP w h->(K w.params).In h)
  (F:∀(w:af) (mg:Str->bi) (fa:aq) (h:au),(K w.params).In h->h.Ns mainGlobals mg->mg d.name=some (.ref fa) ->
   ∃fd:FuncData,(∀(s:aE) (u:aa),BindsTo s fd ⟨[u],[]⟩ [(x,u)]) /\
    ∀base:au,(K w.params).In base->base.Ns mainGlobals mg->FnOk l.prog w (K w.params) mg base (CX w) k fa fd [x] (sp w))
  (hsp:∀(w:af) (H:Hp) (a:aq) (ns:ag),ns.length<=n->KS H->jR (K w.params) H a (ns.map V.int)->sp w [.ref a] H (λv _=>v=.bl true) λ_ _ _=>False)
  (hCX:∀(w:af) (H:Hp) (s:aE) (e:aa) (s':aE),CX w [] H s (λ_ _ _=>False) e s'->False) :
  PySem.W.WalkO q loose XP YP l.row.toRowW d [] (λf vs=>PySem.call f vs):=by
 refine Att.yQ hn hdf λw C z mg Z fa o pm U M a vs ns G Y ho hd L B t m j hg=>?_;have J:=hY w _ Y;obtain⟨fd,hb,N⟩:=F w mg fa _ J G.T.g B;exact Ih J G.T.g G.T.b G.T.builtins G.T.nolimit hg t m (bH j hn2) hr N hb (λH P O=>hsp w H a ns j P O) λH e s'=>hCX w H z e s'
abbrev pZ (s:aG):Arguments:=match s with
 | .FunctionDef _ a _ _ _ _ _ _ _ _=>a
 | _=>{ posonlyargs:=[],args:=[],vararg:=none,kwonlyargs:=[],kw_defaults:=[],kwarg:=none,defaults:=[]}
abbrev m7 (s:aG):List aG:=match s with
 | .FunctionDef _ _ b _ _ _ _ _ _ _=>b
 | _=>[]
abbrev iO (s:aG):Scope:=match s with
 | .FunctionDef _ _ _ _ _ _ d _ _ _=>d
 | _=>{ kind:=.function,names:=[],isGenerator:=false,isCoroutine:=false }
meta abbrev qa:IY:=λ_ _ _ _ _ _=>False
meta abbrev E0:XK:=λ_ _ _=>False
def OF:Passes qa X E0:=λ_ _ _ _ _ _ _ h=>h.elim
structure Fun (K:aA)(x qual:Str)(st:aG)(f:aq)(fd:FuncData):Prop where
 ex:∃(oc:aa) (od:Option aq) (kV doc pm:aa) (an:Option aq) (cdv ct:aa) (osl:Array<|bi),
  fd=PySem.W.fnOf x qual (pZ st) (m7 st) (iO st) .none kV doc pm an cdv ct/\K.lookup f=some ⟨oc,od,.func fd,osl⟩/\PySem.W.codeIn K cdv qual=true
 kp:PySem.W.keepIn K (.ref f)=true
section
variable {P:ah}{w:af}{K:aA}{mg:Str->bi}{base:au}
def Fun.ok{x:Str}{st:aG}{f:aq}{N ps:ar}{k:Nat}{sp:Sp}(F:Fun K x qual st f fd)(S:FnScope N ps<|iO st)(len:∀vs H Q E,sp vs H Q E->vs.length=ps.length)
  (J:∀(cdv:aa) (A:aC) (outer:List Env) (s:aE) (H:Hp) (vs:List V) (Q:VK) (E:XK),Room k (A.deeper<|envOfC qual (iO st) s.heap.objs.size f cdv)->sp vs H Q E ->
   ∃t,xA (z_ qa P w K mg base N qual (iO st) f cdv A outer s H E).Qs (m7 st) t/\t { nx:=λ_ H'=>Q .non H',rt:=Q } (start N vs) H):FnOk P w K mg base qa (k+1) f fd ps sp:=by
 obtain⟨z,C,kV,j,G,B,cdv,ct,m,rfl,lk,d⟩:=F.ex;refine PF lk d S len λA outer s H vs Q E hr g=>?_;obtain⟨t,h,q⟩:=J cdv A outer s H vs Q E hr g;exact⟨t,h.Qs,q⟩
def Fun.binds{x:Str}{st:aG}{f:aq}{ps:ar}(F:Fun K x qual st f fd)
  (h:∀(kV doc pm:aa) (an:Option aq) (cdv ct:aa) (us:ba),us.length=ps.length->bindArgs (PySem.W.fnOf x qual (pZ st) (m7 st) (iO st) .none kV doc pm an cdv ct) ⟨us,[]⟩=pure (ps.zip us)):Binds K fd ps []:=by
 obtain⟨k,j,kV,doc,pm,an,cdv,ct,g,rfl,lk,d⟩:=F.ex;exact .all<|h kV doc pm an cdv ct
def N3{x:Str}{st:aG}{f:aq}{kV j ct:aa}(l:K.lookup f=some ⟨oc,od,.func<|PySem.W.fnOf x qual (pZ st) (m7 st) (iO st) .none kV doc j an cdv ct,osl⟩)
  (c:PySem.W.codeIn K cdv qual=true) (k:PySem.W.keepIn K (.ref f)=true):Fun K x qual st f (PySem.W.fnOf x qual (pZ st) (m7 st) (iO st) .none kV doc j an cdv ct):=⟨⟨oc,od,kV,doc,j,an,cdv,ct,osl,rfl,l,c⟩,k⟩
end
section
variable {X:Cx}
def pv(i:Nat){x:Str}(J:X.N[i]?=some x<|>ε)(hv:Ot X.env.scope x:=by first|exact Or.inl rfl|exact Or.inr (Or.inl rfl)|exact Or.inr<|Or.inr rfl)(hd:(x == ("__debug__" : Str))=false:=by decide)
  (j:(x == ("__classdict__" : Str))=false:=by decide):PE X (.Name x pos) (Pp i):=ET J hv hd j
end
set_option maxHeartbeats 4000000
abbrev Fg (σ:St):bo->Option V
 | some j=>(σ[j]?).getD none
 | none=>none
abbrev oU (env:Env):List (Str×NameKind)->List (Str×aq)->List (Str×aq)
 | [],cs=>cs
 | (n,k)::r,cs=>oU env r (if k == .free then(n,(env.cells.lookup n).getD 0)::cs else cs)
def qx{scope:Scope}{env:Env}(h:∀y∈scope.names,y.2=.free->∃c,env.cells.lookup y.1=some c):closureFor scope env=pure (oU env scope.names []):=by
 have f:∀(l:List<|Str×NameKind) (d:List<|Str×aq),(∀y∈l,y.2=.free->∃c,env.cells.lookup y.1=some c) ->
   (forIn l d (λ(x:Str×NameKind) (r:List<|Str×aq)=>(match x with
    | (name,kind)=>if (kind == NameKind.free)=true then(do let c <- cellOf env name;pure (ForInStep.yield ((name,c)::r)))else pure (ForInStep.yield r):Sem<|ForInStep<|List<|Str×aq)))=(pure (oU env l d):Sem<|List<|Str×aq):=by
  intro l
  induction l with
  | nil=>intro d _;rfl
  | cons y r t=>
   intro d g;obtain⟨n,k⟩:=y;rw[List.forIn_cons];by_cases m:k=.free
   ·subst m;obtain⟨c,hc⟩:=g (n,.free) aM rfl;have e1:cellOf env n=pure c:=by
     unfold cellOf;rw[hc]
    dsimp[cA,d8,e1,pure_bind];rw[t _ λz j=>g z<|aN _ j];dsimp[oU,cA,d8,hc,dR]
   ·have hb:(k == NameKind.free)=false:=by simpa using m
    dsimp[hb,c_,cY,pure_bind];rw[t _ λz j=>g z<|aN _ j];dsimp[oU,hb,c_,cY]
 have:=f scope.names [] h;exact(cj (λz=>z >>= λd=>(pure d:Sem<|List<|Str×aq)) this).trans (pure_bind _ _)
theorem uq:∀{l:List<|Str×NameKind}{x:Str}{k:NameKind},l.lookup x=some k->(x,k)∈l
 | [],_,_,h=>nomatch h
 | (n,k')::r,x,k,h=>by
  rw[c8]at h
  cases hx:x == n with
  | true=>
   rw[hx]at h;have e:x=n:=by simpa using hx
   subst e
   cases h
   exact aM
  | false=>rw[hx]at h;exact aN _<|uq h
theorem v8{env:Env}{x:Str}:∀{l:List<|Str×NameKind}{cs:List<|Str×aq},(∀y∈l,y.2=.free->∃c,env.cells.lookup y.1=some c)->(oU env l cs).lookup x=some c->env.cells.lookup x=some c\/cs.lookup x=some c
 | [],cs,_,h=>.inr h
 | (n,k)::r,cs,hl,h=>by
  have h':=v8 (l:=r) (λz f=>hl z<|aN _ f) h
  rcases h' with h'|h'
  ·exact .inl h'
  ·by_cases d:k=.free
   ·subst d;dsimp[cA,d8]at h';obtain⟨g,hc⟩:=hl (n,.free) aM rfl;rw[hc,dR,c8]at h'
    cases hx:x == n with
    | true=>
     rw[hx]at h';have e:x=n:=by simpa using hx
     subst e;left;rw[hc];exact h'
    | false=>rw[hx]at h';exact .inr h'
   ·have hb:(k == NameKind.free)=false:=by simpa using d
    dsimp[hb,c_,cY]at h';exact .inr h'
theorem vN{env:Env}{x:Str}:∀{l:List<|Str×NameKind}{cs:List<|Str×aq},(cs.lookup x).isSome=true->((oU env l cs).lookup x).isSome=true
 | [],cs,h=>h
 | (n,k)::r,cs,h=>by
  skip
  refine vN (l:=r) ?_;by_cases d:(k == NameKind.free)=true
  ·rw[aR d,c8]
   cases hx:x == n with
   | true=>rfl
   | false=>exact h
  ·rw[aU d];exact h
theorem uy{env:Env}{x:Str}:∀{l:List<|Str×NameKind}{cs:List<|Str×aq},(x,NameKind.free)∈l->((oU env l cs).lookup x).isSome=true
 | [],_,h=>nomatch h
 | (n,k)::r,cs,h=>by
  rcases a_.mp h with e|h
  ·cases e
   skip
   refine vN (l:=r) ?_;rw[aR<|by rfl,c8];simp
  ·exact uy (l:=r) h
theorem qh:∀(names:List<|Str×NameKind) (n:Nat) (acc:List<|Str×aq),cellsFrom n names acc=cellsFrom n names []++acc
 | [],_,_=>rfl
 | (x,k)::r,n,acc=>by
  unfold cellsFrom;split
  ·rw[qh r (n+1) ((x,n)::acc),qh r (n+1) [(x,n)],bg];rfl
  ·exact qh r n acc
theorem Ak:∀(names:List<|Str×NameKind) (n:Nat) {x:Str}{c:aq},(x,c)∈cellsFrom n names []->(x,NameKind.cell)∈names
 | [],_,_,_,h=>nomatch h
 | (y,k)::r,n,x,c,h=>by
  unfold cellsFrom at h;split at h
  ·rename_i d;rw[qh]at h
   rcases bA.mp h with z|z
   ·exact aN _ (Ak r _ z)
   ·rw[br]at z
    cases z
    have:k=.cell:=by simpa using d
    rw[this];exact aM
  ·exact aN _<|Ak r _ h
theorem qV{α:Type}{x:Str}:∀{l m:List<|Str×α},(l++m).lookup x=match l.lookup x with|some c=>some c|none=>m.lookup x
 | [],_=>rfl
 | (y,c)::l,m=>by
  rw[fY,c8,c8]
  cases x == y with
  | true=>rfl
  | false=>exact qV
def JM{n:Nat}{acc:List<|Str×aq}{x:Str}(h:(cellsFrom n names acc).lookup x=some c):(cellsFrom n names []).lookup x=some c\/((cellsFrom n names []).lookup x=none/\acc.lookup x=some c):=by
 rw[qh,qV]at h
 cases e:(cellsFrom n names []).lookup x with
 | some d=>rw[e]at h;exact .inl h
 | none=>rw[e]at h;exact .inr ⟨rfl,h⟩
def MF{n:Nat}{acc:List<|Str×aq}{x:Str}(h:(x,NameKind.cell)∉names):(cellsFrom n names acc).lookup x=acc.lookup x:=by
 rw[qh,qV]
 cases e:(cellsFrom n names []).lookup x with
 | some d=>exact absurd (Ak names n<|cF e) h
 | none=>rfl
def xw{A:aC}{E:aa->aE->Prop}{s:aE}{scope:Scope}{j:aq}{J:List<|Str×aq}{env:Env}{Q:Env->aE->Prop}
  (L:∀h':au,h'.Ns s.heap.objs.size (λ_=>none)->(∀b o,s.heap.get? b=some o->h'.get? b=some o)->CellsOk h' (s.heap.objs.size+1) (cellsFrom (s.heap.objs.size+1) scope.names []) ->
   Q (newEnv scope s.heap.objs.size j (cellsFrom (s.heap.objs.size+1) scope.names J) qual none .none (some env) builtinsNs) { s with heap:=h',toks:=s.toks+([]:List<|Str×aa).length }) :
  wpAny M A (newFunctionEnv scope j J [] qual none .none<|some env) Q E s:=by
 dsimp[newFunctionEnv,isSome_some,d8];refine aJ<|wpAny_alloc ?_;refine aJ (wpAny_layCells _ (λname kind cells=>by cases d:kind == NameKind.cell<;>simp[d]) _ _ _ _ ?_);have ok:=cellsFrom_ok scope.names (s.heap.push { cls:=.type "dict",data:=.dict #[]}) (s.heap.objs.size+1) [] ⟨λ_ _ hm=>(nomatch hm),List.Pairwise.nil⟩ (by rw[dS];exact aP _);rw[dS]at ok;rw[show({ s with heap:=s.heap.push { cls:=.type "dict",data:=.dict #[]}}:aE).heap.objs.size=s.heap.objs.size+1 from dS ..];rw[List.forIn_nil];refine aJ<|aO<|aO ?_;exact L _ ((Heap.Ns.new s.heap<|.type "dict").keeps<|pushCells_keeps _ _) (λb o e=>pushCells_keeps _ _ b o<|aQ _ e) ok
abbrev iU (X:Cx)(scope:Scope)(N:ar)(C:aq)(s₀:aE)(H₀:Hp)(ex:bd):Cx where
 prog:=X.prog
 w:=X.w
 K:=X.K
 mg:=X.mg
 base:=X.base
 A:=X.A
 N:=N
 s₀:=s₀
 H₀:=H₀
 env:=compEnvC scope (cellsFrom (C+1) scope.names<|oU X.env scope.names []) C X.env
 outer:=X.stack
 stack:=X.stack
 ex:=ex
 fn:=λx=>scope.names.lookup x == some .cell
 calm:=X.calm
 pn:=[]
 xe:=λ_ _=>False
structure CpScope (X:Cx)(scope:Scope)(N:ar)(cap:List (bo)):Prop where
 kind:scope.kind=.function
 nocf:∀x,(x,NameKind.free)∈scope.names->(x,NameKind.cell)∉scope.names
 nm:∀y∈scope.names,y.2=.local->scope.names.lookup y.1=some .local
 fr:∀y∈scope.names,y.2=.free->X.env.kindOf y.1=some .cell\/X.env.kindOf y.1=some .free
 rl:∀y,((relabel scope X.env).names.lookup y=some .cell\/(relabel scope X.env).names.lookup y=some .free)->(y,NameKind.free)∈scope.names\/scope.names.lookup y=some .cell
 len:cap.length=N.length
 nolf:∀x,(x,NameKind.free)∈scope.names->scope.names.lookup x≠some .local
 cp:∀(i j:Nat) (x:Str),N[i]?=some x->cap[i]?=some (some j)->X.N[j]?=some x/\(x,NameKind.free)∈scope.names
def Ad{scope:Scope}{N:ar}{cap:List<|bo}{H:Hp}{s:aE}{fp:bd}{h₁:au}{m:Str->bi}{tk:Nat}(S:CpScope X scope N cap)(I:Inv X pins σ H s)
  (hf:∀b∈fp,mX X pins H b) (ho:∀b∈fp,∃o,s.heap.get? b=some o) (hn:h₁.Ns s.heap.objs.size m) (hC:CellsOk h₁ (s.heap.objs.size+1)<|cellsFrom (s.heap.objs.size+1) scope.names []) (hk:∀b o,s.heap.get? b=some o->h₁.get? b=some o) :
  Inv (iU X scope N s.heap.objs.size s H fp) [] (cap.map<|Fg σ) H { s with heap:=h₁,toks:=tk }:=by
 k_ne;have lk:∀x c,(oU X.env scope.names []).lookup x=some c->X.env.cells.lookup x=some c:=λx c e=>by
  rcases v8 hfree e with z|z
  ·exact z
  ·cases z
 have f:∀x c,(cellsFrom (s.heap.objs.size+1) scope.names<|oU X.env scope.names []).lookup x=some c->((x,c)∈cellsFrom (s.heap.objs.size+1) scope.names []/\h₁.IsCell c none/\s.heap.objs.size+1<=c)\/X.env.cells.lookup x=some c:=λx c e=>by
  rcases JM e with z|z
  ·exact .inl ⟨cF z,hC.empty x c<|cF z⟩
  ·exact .inr<|lk x c z.2
 have old:∀x c,X.env.cells.lookup x=some c->c<s.heap.objs.size:=λx c e=>by
  obtain⟨v,z⟩:=I.cell x c e;exact z.lt
 have lt:∀b o,s.heap.get? b=some o->b≠s.heap.objs.size:=λb o e=>bB<|aZ e;refine⟨⟨I.ok.mod,?_,I.ok.glob,I.ok.blt,aP _,?_,?_,?_,I.ok.hd,I.ok.frames,.inl rfl,?_,I.bs,bH I.ok.bsz I.sz,?_,?_,I.stack,I.CC⟩,rfl,I.bare,Un.kept hk,?_,?_,I.hok.fresh<|aP _,?_,?_,I.hok.kept hk,?_⟩
 ·exact S.kind
 ·intro x y c e1 e2
  rcases f x c e1 with a|a
  ·rcases f y c e2 with b|b
   ·exact name_of_addr hC.apart a.1 b.1
   ·exact absurd (old y c b)<|not_lt.mpr<|cQ a.2.2
  ·rcases f y c e2 with b|b
   ·exact absurd (old x c a) (not_lt.mpr<|cQ b.2.2)
   ·exact I.ok.inj x y c a b
 ·intro x e;refine cR.mp (d7 _ _ _ ?_)
  rcases S.rl x e with hm|hm
  ·exact .inr (uy (env:=X.env) (cs:=[]) hm)
  ·exact .inl hm
 ·intro x c e F;have e:scope.names.lookup x=some .cell:=by
   have e:(scope.names.lookup x == some .cell)=true:=e;simpa using e
  obtain⟨d,hd⟩:=cR.mp<|d7 scope.names (s.heap.objs.size+1) []<|.inl e;have F:(cellsFrom (s.heap.objs.size+1) scope.names<|oU X.env scope.names []).lookup x=some c:=F;rw[qh,qV,hd]at F
  cases F
  exact cQ (hC.empty x c<|cF hd).2
 ·intro b hb;obtain⟨o,e⟩:=ho b hb;refine⟨lt b o e,λx c e2=>?_⟩
  rcases f x c e2 with z|z
  ·exact gW (Nat.lt_trans (aZ e) z.2.2)
  ·exact(hf b hb).2.2.2.2.1 x c z
 ·intro b o e hb;obtain⟨_,_,_,h3,_⟩:=hf b hb
  rcases h3 with z|z
  ·exact I.ok.noex b o e z
  ·exact absurd (bM (aZ (I.ok.bs b o e).1) z)<|eZ _
 ·intro b hb hz;obtain⟨_,h1,h2,_⟩:=hf b hb
  rcases a_.mp (I.zN b hz)with z|z
  ·exact h1 z
  ·exact h2 z
 ·refine⟨m,hn,λi x v e1 e2 W=>?_⟩;rw[aX]at e2
  cases hc:cap[i]? with
  | none=>rw[hc]at e2;cases e2
  | some oj=>
   rw[hc]at e2
   cases oj with
   | none=>cases e2
   | some j=>
    have t:(σ[j]?).getD none=some v:=aV e2;obtain⟨V,hm⟩:=S.cp i j x e1 hc;obtain⟨m0,Y,O⟩:=I.loc;have U:σ[j]?=some (some v):=by
     cases h:σ[j]? with
     | none=>rw[h]at t;cases t
     | some z=>rw[h,dR]at t;rw[t]
    have G:=S.fr (x,.free) hm rfl;have hv:Ot X.env.scope x:=.inr G;obtain⟨u,Z,lo⟩:=O j x v V U hv;refine⟨u,Z,?_⟩
    rcases lo with⟨lo,_⟩|⟨_,c,F,ic⟩
    ·rcases G with z|z<;>(rw[z]at lo;cases lo)
    ·have h2:=uy (env:=X.env) (cs:=[]) hm;obtain⟨L,C⟩:=cR.mp h2;have:L=c:=aV<|(lk x L C).symm.trans F;subst this;refine .inr ⟨?_,L,(MF<|S.nocf x hm).trans C,?_⟩
     ·rcases W with z|z|z
      ·exfalso;have:(relabel scope X.env).names.lookup x=some .local:=z;have J:scope.names.lookup x=some .local:=by
        have K:∃k,(x,k)∈(relabel scope X.env).names/\k=.local:=by
         clear C h2;have:=uq this;exact⟨_,this,rfl⟩
        obtain⟨k,P,rfl⟩:=K;obtain⟨⟨n',k'⟩,M,g⟩:=bK.mp P;dsimp only at g;split at g
        ·cases g
        ·cases g
         exact S.nm (x,.local) M rfl
       exact False.elim<|S.nolf x hm J
      ·exact .inl z
      ·exact .inr z
     ·obtain⟨o,B,hd⟩:=ic;exact⟨o,hk _ _ B,hd⟩
 ·intro x c e
  rcases f x c e with z|z
  ·exact⟨_,z.2.1⟩
  ·obtain⟨v,o,B,hd⟩:=I.cell x c z;exact⟨v,o,hk _ _ B,hd⟩
 ·intro x c e
  rcases f x c e with z|z
  ·exact I.hok.fresh (cQ z.2.2)
  ·exact I.freeC x c z
 ·intro p hp
  cases hp
 ·rw[aL,S.len];rfl
abbrev zU (X:Cx)(ifs:List aF)(t:TT):Prop:=
 ∀(pins:bt) (s:aE) (σ:St) (H:Hp) (Q:Bool->Hp->Prop),Inv X pins σ H s->t σ H Q ->
  wpAny (model X.prog X.w) X.A (forIn ifs true λc r=>if r=true then do let ok <- isTrue c X.env (eval c X.env);pure (ForInStep.yield ok)else pure (ForInStep.yield r)) (TP X pins σ Q) X.xe s
abbrev Ri:TT:=λ_ H Q=>Q true H
def Jj:zU X [] Ri:=λ_ _ _ H _ I h=>wpAny_tests_nil ⟨H,I,h⟩
def KR{c:aF}{t:TT}(h:PT X c t):zU X [c] t:=λpins s σ H Q I q=>wpAny_tests_one<|h pins s σ H Q I q
abbrev MZ (cap:List<|bo)(g:TG)(tc:TT)(te:TE)(σ:St)(Q:VK)(J:It)(H1:Hp):Prop:=∀D,H1 D=none ->
 ∃W:Nat->Nat->St->Hp->Prop,(∃m,W 0 m (cap.map<|Fg σ)<|upd H1 D<|.lst [])/\∀i m f H',W i m f H' ->
  (J.stop i H'/\Q (.ref D) H')\/(J.go i H'/\∀x H2,J.yld i H' x H2->g x f H2 λd k=>tc d k λb j=>
   if b=true then te d j λy H5=>∃ys,H5 D=some (.lst ys)/\ys.length<sizeLine/\∃m',m'<m/\W (i+1) m' d (upd H5 D<|.lst<|ys++[y])
   else ∃m',m'<m/\W (i+1) m' d j)
abbrev Qq (cap:List<|bo)(j:TI)(g:TG)(tc:TT)(te:TE):TE:=λσ H Q=>j σ H<|MZ cap g tc te σ Q
def rR{α:Type}{t:Sem α}{Q Q':α->aE->Prop}{A:aC}{E:aa->aE->Prop}(h:wpAny M A t Q (λ_ _=>False) s)(j:∀a s,Q a s->Q' a s):wpAny M A t Q' E s:=
 c9 h j λ_ _ f=>f.elim
structure TurnG (ok:Cx->Prop)(P:ah)(w:af)(K:aA)(tg:aF)(J:It)(fp:bd)(it:aq)(tn:Nat->au->Prop):Prop where
 obj:∀i h,tn i h->∀b∈fp,∃o,h.get? b=some o/\∀v,o.data≠.cell v
 keep:∀i h h',tn i h->(∀b∈fp,∀o,h.get? b=some o->h'.get? b=some o)->tn i h'
 item:∀(X:Cx),X.prog=P->X.w=w->X.K=K->ok X->∀(i:Nat) (pins:bt) (s:aE) (σ:St) (H:Hp) (E:aa->aE->Prop),Inv X pins σ H s->(∀b∈fp,mX X pins H b)->tn i s.heap->J.go i H ->
  wpAny (model P w) X.A (pyNext<|.ref it) (λr s1=>∃u,r=some u /\
   wpAny (model P w) X.A (letOwnedTupleGo tg (.ref it) u) (λ_ s2=>∃x H',Inv X pins σ H' s2/\RelV x u/\J.yld i H x H'/\tn (i+1) s2.heap/\∀b∈fp,H' b=none) E s1) E s
 done:∀(X:Cx),X.prog=P->X.w=w->X.K=K->ok X->∀(i:Nat) (pins:bt) (s:aE) (σ:St) (H:Hp) (E:aa->aE->Prop),Inv X pins σ H s->(∀b∈fp,mX X pins H b)->tn i s.heap->J.stop i H ->
  wpAny (model P w) X.A (pyNext<|.ref it) (λr s1=>r=none/\Inv X pins σ H s1) E s
 self:∀(A:aC) (i:Nat) (s:aE) (Q:aa->aE->Prop) (E:aa->aE->Prop),tn i s.heap->Q (.ref it) s->wpAny (model P w) A (pyIter<|.ref it) Q E s
abbrev Rq (ok:Cx->Prop)(X:Cx)(pins:bt)(σ:St)(tg:aF)(R:It->Hp->Prop)(j:aa)(L:aE):Prop:=
 ∃(it:aq) (fp:bd) (d:Nat->au->Prop) (J:It) (H':Hp),j=.ref it/\Inv X pins σ H' L/\TurnG ok X.prog X.w X.K tg J fp it d/\d 0 L.heap/\(∀b∈fp,mX X pins H' b)/\R J H'
abbrev RB (ok:Cx->Prop)(X:Cx)(tg iter:aF)(j:TI):Prop:=
 ∀(pins:bt) (s:aE) (σ:St) (H:Hp) (R:It->Hp->Prop),Inv X pins σ H s->j σ H R ->
  wpAny (model X.prog X.w) X.A (eval iter X.env) (λv d=>wpAny (model X.prog X.w) X.A (pyIter v) (Rq ok X pins σ tg R) X.xe d) X.xe s
def PI.g{iter:aF}{L:TI}(h:PI X tg iter L):RB (λY=>Y.calm=true) X tg iter L:=λpins s σ H R I q=>
 ju (h pins s σ H R I q) λv k h1=>ju h1 λd m ⟨it,fp,j,J,H',e,f,T,a,b,c⟩=>⟨it,fp,j,J,H',e,f,⟨T.obj,T.keep,T.item,T.done,T.self⟩,a,b,c⟩
def AR{ok:Cx->Prop}{X:Cx}{use:Option<|aa->Sem Unit}{Q':aa->aE->Prop}{iter:aF}{N:ar}{wi:TI}{g:TG}{tc:TT}{te:TE}(S:CpScope X scope N cap)(hok:∀C s₀ H₀ ex,(∀a o u,X.H₀ a=some (.frz o u)->H₀ a=some (.frz o u))->ok (iU X scope N C s₀ H₀ ex))(hi:RB ok X tg iter wi)
  (hg:∀C s₀ H₀ ex,PG (iU X scope N C s₀ H₀ ex) tg g) (ht:∀C s₀ H₀ ex,zU (iU X scope N C s₀ H₀ ex) ifs tc) (he:∀C s₀ H₀ ex,PE (iU X scope N C s₀ H₀ ex) elt te)
  (hs:(∀x,foldedSetIterable iter X.env x=pure x)<|>ζ):∀(pins:bt) (s:aE) (σ:St) (H:Hp) (Q:VK),Inv X pins σ H s->Qq cap wi g tc te σ H Q ->
  (∀(s6:aE) (C D:aq) (H5:Hp) (m:Str->bi),s6.heap.Ns C m->mX X pins H5 C->(∀h',Heap.SameBut C s6.heap h'->Inv X pins σ H5 { s6 with heap:=h' })->Q (.ref D) H5->∀v,compPost (model X.prog X.w) X.A X.xe use Q' (.ref D) C (.ok v) s6) ->
  wpAny (model X.prog X.w) X.A (comprehension (.ListComp elt [⟨tg,iter,ifs,0⟩] scope pos) scope X.env (firstIterPos [⟨tg,iter,ifs,0⟩] pos) (newList []) (firstAsync [⟨tg,iter,ifs,0⟩]) (firstIter [⟨tg,iter,ifs,0⟩] X.env) use) Q' X.xe s:=by
 intro pins s σ H Q I h U;k_ne;refine fj (use:=use) rfl hs (qx hfree) S.kind S.nm<|ju (hi pins s σ H _ I h) λxv s1 h1=>ju h1 λitv f h2=>?_;obtain⟨it,fp,tn,J,H2,rfl,I2,T,O,f2,h2⟩:=h2;refine bS<|xw λG j old k=>?_;obtain⟨W,⟨m0,w0⟩,V⟩:=h2 f.heap.objs.size I2.fresh;dsimp only at j old k ⊢;have I3:Inv X pins σ (upd H2 f.heap.objs.size<|.lst []) { f with heap:=f.heap.push {}}:=I2.F1 (t':=f.toks) (its:=[]) .nil<|bN _;have P:∀b∈fp,∃o,f.heap.get? b=some o:=λb hb=>by
  obtain⟨o,e,_⟩:=T.obj 0 _ O b hb;exact⟨o,e⟩
 have neD:∀b∈fp,b≠f.heap.objs.size:=λb hb=>by
  obtain⟨o,e⟩:=P b hb;exact bB<|aZ e
 have f3:∀b∈fp,mX X pins (upd H2 f.heap.objs.size<|.lst []) b:=λb hb=>⟨by rw[iB<|neD b hb];exact(f2 b hb).1,(f2 b hb).2⟩;have hDC:f.heap.objs.size≠(f.heap.push {}).objs.size:=by rw[dS];exact bB (bD _)
 have I4:=Ad (tk:=f.toks+([]:List<|Str×aa).length) (fp:=fp) S I3 f3 (λb hb=>by
  obtain⟨o,e⟩:=P b hb;exact⟨o,aQ _ e⟩) j k old
 have M:tn 0 G:=T.keep _ _ _ O λb hb o e=>old b o<|aQ _ e;have hc:=hok (f.heap.push {}).objs.size { f with heap:=f.heap.push {}} (upd H2 f.heap.objs.size<|.lst []) fp λa o u e=>by
  have z:=I2.base.frzs a o u e;rw[iB λq=>by rw[q,I2.fresh]at z;cases z];exact z
 have stat:∀{H':Hp},(∀b∈fp,H' b=none)->∀b∈fp,mX (iU X scope N (f.heap.push {}).objs.size { f with heap:=f.heap.push {}} (upd H2 f.heap.objs.size<|.lst []) fp) [] H' b:=λhn b hb=>by
  have ok:=I4.ok;kpf_c
 have K:∀s4:aE,s4={ f with heap:=G,toks:=f.toks+([]:List<|Str×aa).length } ->
   codeAny (model X.prog X.w) X.A (.compLoop (.ListComp elt [⟨tg,iter,ifs,0⟩] scope pos) 0 (.ref it) (.ref f.heap.objs.size)<|compEnvC scope (cellsFrom ((f.heap.push {}).objs.size+1) scope.names<|oU X.env scope.names []) (f.heap.push {}).objs.size X.env)
    (compPost (model X.prog X.w) X.A X.xe use Q' (.ref f.heap.objs.size) (f.heap.push {}).objs.size) s4:=by
  rintro s4 rfl;refine gw rfl (λn s'=>∃i F H',Inv (iU X scope N (f.heap.push {}).objs.size { f with heap:=f.heap.push {}} (upd H2 f.heap.objs.size<|.lst []) fp) [] F H' s'/\tn i s'.heap/\(∀b∈fp,H' b=none)/\W i n F H') (λn s5 hI=>?_) m0 ⟨0,_,_,I4,M,λb hb=>(f3 b hb).1,w0⟩;obtain⟨i,σ5,H5,I5,Y,Z,w5⟩:=hI;show wpAny _ X.A ((compTurn (.ListComp elt [⟨tg,iter,ifs,0⟩] scope pos) 0 (.ref it) (.ref f.heap.objs.size)<|compEnvC scope (cellsFrom ((f.heap.push {}).objs.size+1) scope.names<|oU X.env scope.names []) (f.heap.push {}).objs.size X.env).onRaise λx=>do noteFrame x _;theTreesLotGoes x) _ _ s5;refine gH ?_;rw[compTurn_list];refine aJ (bX<|aJ ?_)
  rcases V i n σ5 H5 w5 with⟨stop,q⟩|⟨go,step⟩
  ·refine ju (T.done (iU X scope N (f.heap.push {}).objs.size { f with heap:=f.heap.push {}} (upd H2 f.heap.objs.size<|.lst []) fp) rfl rfl rfl hc i [] s5 σ5 H5 _ I5 (stat Z) Y stop) λr s6 h9=>?_;obtain⟨hr,I6⟩:=h9;subst hr;obtain⟨m6,hn6,_⟩:=I6.loc;refine aO<|U s6 _ _ H5 m6 hn6 (I3.uN (aP _) I6.free) (λh' sb=>?_) q _;have u6:=I6.base;have nC:∀b o,(f.heap.push {}).get? b=some o->b≠(f.heap.push {}).objs.size:=λb o e=>bB<|aZ e;kd_p
   ·exact sb.extBut b o (nC b o e) (u6.keep b o e n hb hx)
   ·obtain⟨sl,z⟩:=u6.slot b o e n hb hx;exact⟨sl,sb.extBut b _ (nC b o e) z⟩
   ·exact u6.free b o e n hx
   ·obtain⟨o',z⟩:=u6.there b o e hx;exact⟨o',sb.extBut b _ (nC b o e) z⟩
   ·intro b o e;have hb:∀c v,H5 c=some v->c≠(f.heap.push {}).objs.size:=λc v e z=>by
     rw[z]at e;have:=I6.free;rw[show H5 (f.heap.push {}).objs.size=none from this]at e
     cases e
    refine(I6.hok b o e).stay (λc v hc q=>sb.extBut c v ?_ q) (λ_ q=>q) λ_ _ q=>q
    rcases hc with z|z
    ·rw[z];exact hb b o e
    ·exact hb c _ z
   ·intro b hb;obtain⟨_,z1,_,z3,z4,z5⟩:=f3 b hb;exact⟨z3,z1,z4,z5⟩
  ·refine ju (T.item (iU X scope N (f.heap.push {}).objs.size { f with heap:=f.heap.push {}} (upd H2 f.heap.objs.size<|.lst []) fp) rfl rfl rfl hc i [] s5 σ5 H5 _ I5 (stat Z) Y go) λr s6 h9=>?_;obtain⟨u,hr,h6⟩:=h9;subst hr;kpc_g;f_are;kln_w;refine aJ<|rR (ht _ _ _ fp _ s8 σ8 H8 _ I8 q8) λok s9 ⟨H9,I9,q9⟩=>?_;have B:∀{t:aE} {H10:Hp},Inv (iU X scope N (f.heap.push {}).objs.size { f with heap:=f.heap.push {}} (upd H2 f.heap.objs.size<|.lst []) fp) ([]++n5 fp s7.heap) σ8 H10 t->(∃m',m'<n/\W (i+1) m' σ8 H10) ->
     ∃m,m<n/\∃i F H',Inv (iU X scope N (f.heap.push {}).objs.size { f with heap:=f.heap.push {}} (upd H2 f.heap.objs.size<|.lst []) fp) [] F H' t/\tn i t.heap/\(∀b∈fp,H' b=none)/\W i m F H':=λ{t H10} I10 h9=>by
    obtain⟨m',hm,w10⟩:=h9;kj_on;obtain⟨o,e,d⟩:=T.obj _ _ st7 b hb;o_rec
   cases ok with
   | false=>
    rw[aU bf]at q9;exact aO ⟨rfl,B I9 q9⟩
   | true=>
    rw[aR rfl]at q9;refine aJ<|aJ<|rR (he _ _ _ fp _ s9 σ8 H9 _ I9 q9) λy t ⟨L,H10,I10,r10,ys,hD,hz,w10⟩=>?_;refine aJ<|rR (rW _ t σ8 H10 (.ref f.heap.objs.size) [L] _ [y] (λ_ H'=>H'=upd H10 f.heap.objs.size (.lst<|ys++[L])) I10 rfl (.cons r10 .nil) ⟨_,ys,L,rfl,rfl,hD,hz,rfl⟩) λ_ s11 ⟨_,H11,I11,_,e11⟩=>?_;subst e11;exact aO<|aO ⟨rfl,B I11 w10⟩
 exact codeAny_compStart_list (K _ rfl)<|T.self _ 0 _ _ _ M<|K _ rfl
def N8{ok:Cx->Prop}{X:Cx}{iter:aF}{N:ar}{J:TI}{g:TG}{tc:TT}{te:TE}(S:CpScope X scope N cap)(hok:∀C s₀ H₀ ex,(∀a o u,X.H₀ a=some (.frz o u)->H₀ a=some (.frz o u))->ok (iU X scope N C s₀ H₀ ex))(hi:RB ok X tg iter J)
  (hg:∀C s₀ H₀ ex,PG (iU X scope N C s₀ H₀ ex) tg g) (L:∀C s₀ H₀ ex,zU (iU X scope N C s₀ H₀ ex) ifs tc) (M:∀C s₀ H₀ ex,PE (iU X scope N C s₀ H₀ ex) elt te)
  (hs:(∀x,foldedSetIterable iter X.env x=pure x)<|>ζ):PE X (.ListComp elt [⟨tg,iter,ifs,0⟩] scope pos) (Qq cap J g tc te):=by
 w_up;rw[eval_ListComp];exact AR (use:=none) (Q':=EP X pins σ Q) S hok hi hg L M hs pins s σ H Q I h λf C D H5 m hn j inv q v=>⟨m,hn,λh' d=>⟨.ref D,H5,inv h' d,rfl,q⟩⟩
def Qm{X:Cx}{iter:aF}{N:ar}{j:TI}{g:TG}{tc:TT}{te:TE}(hc:X.calm=true)(S:CpScope X scope N cap)(hi:PI X tg iter j)
  (hg:∀C s₀ H₀ ex,PG (iU X scope N C s₀ H₀ ex) tg g) (J:∀C s₀ H₀ ex,zU (iU X scope N C s₀ H₀ ex) ifs tc) (L:∀C s₀ H₀ ex,PE (iU X scope N C s₀ H₀ ex) elt te)
  (hs:(∀x,foldedSetIterable iter X.env x=pure x)<|>ζ):PE X (.ListComp elt [⟨tg,iter,ifs,0⟩] scope pos) (Qq cap j g tc te):=
 N8 S (λ_ _ _ _ _=>hc) hi.g hg J L hs
section
variable {X:Cx}
def Fv{bs:List Bool}:∀{us:ba},Vals (bs.map V.bl) us->LSm.BoolsAre us bs:=by
 induction bs with
 | nil=>intro us r;cases r;exact .nil
 | cons b bs d=>
  intro us r
  cases r with
  | cons h t=>
   have e:_=Value.bool b:=h;subst e;exact .cons b<|d t
def D5(hc:X.calm=true):jc X (.builtin "all") (λxs H Q=>∃(p:aq) (bs:List Bool),xs=[.ref p]/\jR X.K H p (bs.map V.bl)/\Q (.bl<|bs.all id) H):=by
 kt_k;obtain⟨p,bs,rfl,k,q⟩:=h;kst_p
 cases rx
 obtain⟨d,z,t,B⟩:=I.list k;have hb:=Fv z;have f:=t.isList;have g:p<s.heap.objs.size:=by obtain⟨_,e,_⟩:=f;exact aZ e
 refine call_all_walk<|wpAny_pyIter_list f ?_;refine⟨s.heap.objs.size,[s.heap.objs.size,p],[s.heap.objs.size],d.toArray.size,_,_,λi=>(bs[i]?).getD true,rfl,Walks.list (A:=X.A.in1) (I.ok.hd hc) _ p (bB g) d.toArray,
  ⟨⟨_,bI _ rfl,rfl,rfl⟩,f.push _⟩,λi v s' G C hP j=>?_,λh' F m=>?_⟩
 ·obtain⟨b,e,rfl⟩:=hb.get i v (by simpa using hP);dsimp[e,dR]at j;exact dB j
 ·have e:((List.range d.toArray.size).all λi=>(bs[i]?).getD true)=bs.all id:=by
   rw[aW,hb.length];exact LSm.range_all bs
  rw[e];exact⟨.bl _,H,I.kept<|LSm.kept_iter m,rfl,q⟩
def wW:jc X (.builtin "sorted") (λxs H Q=>∃(p:aq) (ns:ag),xs=[.ref p]/\(jR X.K H p (ns.map V.int)\/lW X.K H p (ns.map V.int))/\ns.length<64 /\
  ∀l (ns':ag),H l=none->ns'.Perm ns->ns'.Pairwise (·<=·)->Q (.ref l) (upd H l<|.lst<|ns'.map V.int)):=by
 kt_k;obtain⟨p,ns,rfl,k,O,q⟩:=h;kst_p
 cases rx
 have J:∀(d:ba) (T:String) (o:Obj) (n:Nat),(T = "list" \/ T = "tuple")->s.heap.get? p=some o->o.cls=.type T->o.data=.seq d.toArray n->Vals (ns.map V.int) d ->
   wpAny (model X.prog X.w) X.A (call (.builtin "sorted") [.ref p]) (EP X pins σ Q) X.xe s:=by
  intro d T o n U t f hd j;have hI:=intsAre_of j;have z:d.length=ns.length:=by have:=j.length;rw[aL]at this;exact this.symm
  refine Calls.call_function_entry kind_sorted plain_sorted entry_sorted (args_sorted1 _) ?_;unfold Builtin.«sorted»;refine aJ (m:=checkCount "sorted" 1 1 _)<|aO ?_;refine aJ (wpAny_collect_seq p U t f hd (λh' L=>?_)<|by rw[aW,z,cS];lia);refine aJ<|wpAny_newList ?_;have g:(h'.push<|seqObj "list" d.toArray 0).get? h'.objs.size=some (seqObj "list" d.toArray 0):=bI _ rfl
  skip
  refine aJ<|cJ<|dQ slot_list_sort ⟨_,g,rfl⟩ entry_list_sort (list_sort_tree g hI () λout ns' W G N=>⟨_,rfl,?_⟩)<|args_list_sort _;obtain⟨e,M⟩:=sortedHeap_at (out:=out) g;have F:ns'.length=ns.length:=G.length_eq;have I1:Inv X pins σ H { s with heap:=h' }:=I.kept (t':=s.toks) L;have old:∀b ob,h'.get? b=some ob->(sortedHeap (h'.push<|seqObj "list" d.toArray 0) h'.objs.size d out).get? b=some ob:=λb ob B=>by
   rw[sortedHeap_old (bB<|aZ B)<|by rw[dS];exact gI<|aZ B];exact aQ _ B
  refine aO ⟨_,rfl,.ref h'.objs.size,_,I1.laid (t':=s.toks) (o:=.lst<|ns'.map V.int) old (aP _) ?_,rfl,q _ ns' (I1.hok.fresh<|aP _) G N⟩;refine⟨by rw[aL,F,cS];lia,out.toList,e,sL W,?_⟩;rw[M]
 rcases k with k|k
 ·obtain⟨d,j,C,P⟩:=I.list k;obtain⟨o,t,f,n,hd⟩:=C.isList;exact J d "list" o n (.inl rfl) t f hd j
 ·obtain⟨d,j,C,P⟩:=I.tuple k;obtain⟨o,t,f,n,hd⟩:=C;exact J d "tuple" o n (.inr rfl) t f hd j
def w6:jc X (.type "range") (λxs H Q=>∃i j,xs=[.int i,.int j]/\∀p,H p=none->Q (.ref p) (upd H p<|.rng i j)):=by
 kt_k;obtain⟨i,j,rfl,q⟩:=h;obtain⟨u,f,rfl,⟨t,rfl⟩,⟨d,rfl⟩⟩:=vals2 r;refine call_range_2 ⟨.ref s.heap.objs.size,_,I.laid (o:=.rng i j) (λb o e=>aQ _ e) (aP _) ?_,rfl,q _ I.fresh⟩;exact⟨t,d,s.toks,bI _ rfl⟩
abbrev jT (i j:Int):ag:=(List.range (j-i).toNat).map λk:Nat=>i+(k:Int)
def rE(i j:Int):(jT i j).length=(j-i).toNat:=by unfold jT;rw[aL,gJ]
def zS{i:Int}{n:Nat}{acc:Array aa}(h:ItemsOf (λk v=>∃t,v=Value.int (i+(k:Int) * 1) t) acc n):Vals (((List.range n).map λk:Nat=>i+(k:Int)).map V.int) acc.toList:=by
 obtain⟨hs,hv⟩:=h;have d:∀(l:ba) (b:Nat),(∀j v,l[j]?=some v->∃t,v=Value.int (i+((b+j:Nat):Int)) t)->Vals (((List.range' b l.length).map λk:Nat=>i+(k:Int)).map V.int) l:=by
  intro l
  induction l with
  | nil=>intro b _;exact .nil
  | cons v l g=>
   intro b hb;rw[bz,List.range'_succ,bC,bC];refine .cons ?_ ?_
   ·obtain⟨t,e⟩:=hb 0 v rfl;exact⟨t,by rw[e];simp⟩
   ·refine g (b+1) λj w hw=>?_;obtain⟨t,e⟩:=hb (j+1) w hw;exact⟨t,by rw[e,show b+(j+1)=b+1+j by lia]⟩
 have:=d acc.toList 0 λj v f=>by
  obtain⟨t,e⟩:=hv j v (by simpa using f);exact⟨t,by rw[e,gX,Int.mul_one]⟩
 rw[bZ,hs,<- gb]at this;exact this
def MU{i j:Int}:Builtin.Range.rangeSize i j 1=(((j-i).toNat:Nat):Int):=by rw[rangeSize_one];split<;>omega
def vh(hc:X.calm=true):jc X (.type "list") (λxs H Q=>∃p i j,xs=[.ref p]/\H p=some (.rng i j)/\(-(2 ^ 62)<=i/\i<2 ^ 62/\-(2 ^ 62)<=j/\j<2 ^ 62)/\(j-i).toNat<=1000/\∀l,H l=none->Q (.ref l) (upd H l<|.lst<|(jT i j).map V.int)):=by
 kt_k;obtain⟨p,i,j,rfl,hp,⟨k,m,z,C⟩,hn,q⟩:=h;kst_p
 cases rx
 obtain⟨t,G,v,e⟩:=I.hok p _ hp;refine call_list_range (n:=(j-i).toNat) (I.ok.hd hc) e (small_one k m z C) MU () λh' J f B g F d=>?_;refine⟨.ref s.heap.objs.size,_,I.laid (o:=.lst<|(jT i j).map V.int) g (aP _) ⟨?_,f.toList,B,zS d,by rw[F]⟩,rfl,q _ I.fresh⟩;rw[aL,rE,cS];lia
end
section
variable {X:Cx}
abbrev Ra (K:aA)(te:TE):TE:=λσ H Q=>te σ H λx H1=>∃a xs,x=.ref a/\jR K H1 a xs/\∀p,H1 p=none->Q (.ref p) (upd H1 p<|.lst xs.reverse)
def KO{te:TE}{up cp:Pos}(J:PE X e te):PE X (.Subscript e (.Slice none none (some<|.UnaryOp .USub (.Constant (.int 1) kk cp) up) p2) pos) (Ra X.K te):=by
 w_up;refine Subscript_<|ju (J pins s σ H _ I h) λv z ⟨x,H1,I1,r1,a,xs,ex,k,q⟩=>?_;subst ex
 cases r1
 refine wpAny_Slice ?_;rw[gP];refine aO ?_;refine aO ?_;rw[evalPart_some];refine ju ((Il (a:=.Constant (.int 1) kk cp) Aq Au) pins z σ H1 (λv H'=>v=.int (-1)/\H'=H1) I1 ⟨1,rfl,rfl,rfl⟩) λG d h9=>?_;obtain⟨y,F,I3,r3,m,B⟩:=h9;subst m B;obtain⟨t,rfl⟩:=r3;have I4:Inv X pins σ F { d with heap:=d.heap.push { cls:=.type "slice",data:=.fields #[.none,.none,.int (-1) t]}}:=I3.kept (t':=d.toks) λb ob q=>aQ _ q;obtain⟨its,j,f,C⟩:=I4.list k
 skip
 refine tail_any (ops:=[.ref a,.ref d.heap.objs.size]) f.isList.typeIs gG.lookup ?_ (by with_unfolding_all rfl);have g:=j.length;refine wpAny_getItem_list_slice f.isList (gz ..) .none .none (.int (-1) t) ⋯ ?_ (by rw[aW]<;>lia);rw[PySem.W.krv_pick];refine⟨.ref _,_,I4.F1 (t':=d.toks) (ys:=xs.reverse) (its:=its.reverse) j.reverse<|by rw[gr];exact C,rfl,q _ I4.fresh⟩
def yR:jc X (.builtin "isinstance") (λxs H Q=>∃x t b,xs=[x,.ty c]/\TyOf X.K H x t/\PySem.W.kitOne X.K t (.type c)=some b/\Q (.bl b) H):=by
 kt_k;obtain⟨x,t,b,rfl,ty,e,q⟩:=h;obtain⟨u,g,rfl,rx,f⟩:=vals2 r
 cases f
 exact Ef I rx ty e λd=>⟨.bl b,H,I.tok d,rfl,q⟩
abbrev MV (K:aA):R2:=λx y H Q=>∃a b ys,x=.ref a/\y=.ref b/\lW K H a []/\lW K H b ys/\Q (.ref b) H
def F4:lV X (binaryOp .Add) (MV X.K):=by
 kcj_m;obtain⟨a,b,ys,rfl,rfl,h1,h2,q⟩:=h
 cases rx
 cases ry
 obtain⟨us,r1,p1,_⟩:=I.tuple h1;obtain⟨B,r2,p2,_⟩:=I.tuple h2
 cases r1
 obtain⟨⟨cls,dd,data,C⟩,z,hc,n,hd⟩:=id p1;obtain⟨⟨t,m,k,j⟩,g,d,F,f⟩:=id p2;simp only at hc hd d f;subst hc hd d f;exact concat_meets ⟨_,z,rfl⟩ ⟨_,g,rfl⟩ noFill_tuple_add seq_tuple_add fH fE (ff _ _)
   (tuple_addW0 a b _ B.toArray n F dd m C j<|by simp) ⟨z,g,⟨.ref b,H,I,rfl,q⟩⟩
end
def jL:bootBuiltins "len" = some (.builtin "len"):=by decide +kernel
def wz:bootBuiltins "all" = some (.builtin "all"):=by decide +kernel
def wN:bootBuiltins "max" = some (.builtin "max"):=by decide +kernel
def Oc:bootBuiltins "min" = some (.builtin "min"):=by decide +kernel
def vM:bootBuiltins "sorted" = some (.builtin "sorted"):=by decide +kernel
def k7:bootBuiltins "isinstance" = some (.builtin "isinstance"):=by decide +kernel
def NK:bootBuiltins "int" = some (.type "int"):=by decide +kernel
def JO:bootBuiltins "bool" = some (.type "bool"):=by decide +kernel
def qQ:bootBuiltins "list" = some (.type "list"):=by decide +kernel
def E1:bootBuiltins "range" = some (.type "range"):=by decide +kernel
def Ko:∀{a b:ag},a.Perm b->a.Pairwise (·<=·)->b.Pairwise (·<=·)->a=b:=λp d hb=>
 List.Perm.eq_of_pairwise (λx y _ _ h1 h2=>gk h1 h2) d hb p
def Ab(i j:Int):(jT i j).Nodup:=by
 unfold jT;rw[List.Nodup,eG];exact List.pairwise_lt_range.imp λh=>()
def pR{i j k:Int}:k∈jT i j ↔ i<=k/\k<j:=by
 unfold jT;rw[bK];constructor
 ·rintro⟨a,d,rfl⟩;have:=ie.mp d;omega
 ·rintro⟨h1,h2⟩;exact⟨(k-i).toNat,ie.mpr<|by omega,by omega⟩
abbrev Kn (P:ah)(w:af)(K:aA)(mg:Str->bi)(base:au)(k:Nat)(x:Str)(ps:ar)(sp:Sp):Prop:=
 ∃(f:aq) (fd:FuncData),FnOk P w K mg base qa k f fd ps sp/\mg x=some (.ref f)/\PySem.W.keepIn K (.ref f)=true/\Binds K fd ps []
def O7{X:Cx}{k:Nat}{x:Str}{sp:Sp}{t:TA}{p:Pos}(G:Kn X.prog X.w X.K X.mg X.base k x ps sp)(hr:Room k X.A)(L:PA X (e::es) t)(hg:Gl X x<|>ε)
  (J:(x == ("__debug__" : Str))=false<|>δ) (hs:starEach (e::es) X.env=(false,eval e X.env)::starEach es X.env<|>ε) (j:((backTo pos<|starEach es X.env).any (·.1)=false)<|>ε) :
  PE X (.Call (.Name x p) (e::es) [] pos) (LV sp [] E0 t):=by
 obtain⟨f,fd,F,hm,d,hb⟩:=G;exact JH F hr hg hm d hb .nil OF L J hs j
abbrev uX (J fs:ar):ar->List (bo)->Prop
 | [],[]=>True
 | _::N,none::c=>uX J fs N c
 | x::N,some j::c=>J[j]?=some x/\x∈fs/\uX J fs N c
 | _,_=>False
theorem uX.len{fs:ar}:∀{N:ar}{c:List<|bo},uX XN fs N c->c.length=N.length
 | [],[],_=>rfl
 | _::N,none::c,h=>cj (·+1) (uX.len (N:=N) (c:=c) h)
 | _::N,some j::c,h=>cj (·+1) (uX.len (N:=N) (c:=c) h.2.2)
 | [],_::_,h=>h.elim
 | _::_,[],h=>h.elim
theorem uX.cp{fs:ar}:∀{N:ar}{c:List<|bo},uX XN fs N c->∀(i j:Nat) (x:Str),N[i]?=some x->c[i]?=some (some j)->XN[j]?=some x/\x∈fs
 | [],[],_,i,j,x,h1,_=>by simp at h1
 | y::N,none::c,h,i,j,x,h1,h2=>by
  cases i with
  | zero=>simp at h2
  | succ i=>exact uX.cp (N:=N) (c:=c) h i j x (by simpa using h1)<|by simpa using h2
 | y::N,some k::c,h,i,j,x,h1,h2=>by
  cases i with
  | zero=>
   simp at h1 h2;subst h1 h2;exact⟨h.1,h.2.1⟩
  | succ i=>exact uX.cp (N:=N) (c:=c) h.2.2 i j x (by simpa using h1)<|by simpa using h2
 | [],_::_,h,_,_,_,_,_=>h.elim
 | _::_,[],h,_,_,_,_,_=>h.elim
def oO{X:Cx}{scope:Scope}{N:ar}(fs:ar)(kind:scope.kind=.function)(nocf:∀y∈scope.names,y.2=.cell->scope.names.lookup y.1=some .cell/\(y.1,NameKind.free)∉scope.names)(nm:∀y∈scope.names,y.2=.local->scope.names.lookup y.1=some .local)
  (nolf:∀y∈scope.names,y.2=.free->scope.names.lookup y.1≠some .local) (hf:∀y∈scope.names,y.2=.free->y.1∈fs) (J:∀x∈fs,(x,NameKind.free)∈scope.names) (L:∀x∈fs,X.env.kindOf x=some .cell\/X.env.kindOf x=some .free) (cp:uX X.N fs N cap):CpScope X scope N cap where
 kind:=kind
 nocf:=λx hf hc=>(nocf (x,.cell) hc rfl).2 hf
 nm:=nm
 fr:=λy hy e=>L _ (hf y hy e)
 rl:=λy h=>by
  have g:∀k,(k=NameKind.cell\/k=NameKind.free)->(relabel scope X.env).names.lookup y=some k->(y,NameKind.free)∈scope.names\/scope.names.lookup y=some .cell:=λk L e=>by
   obtain⟨⟨t,m⟩,f,d⟩:=bK.mp<|uq e;dsimp only at d;split at d
   ·rename_i hc
    cases d
    have:m=.free:=by
     dsimp[c7]at hc;simpa using hc.1.1
    subst this;exact .inl f
   ·cases d
    rcases L with rfl|rfl
    ·exact .inr (nocf _ f rfl).1
    ·exact .inl f
  rcases h with h|h
  ·exact g _ (.inl rfl) h
  ·exact g _ (.inr rfl) h
 len:=cp.len
 nolf:=λx hx=>nolf (x,.free) hx rfl
 cp:=λi j x h1 h2=>by
  obtain⟨a,b⟩:=cp.cp i j x h1 h2;exact⟨a,J x b⟩
inductive Kd where
 | non|bl|int|str|lst|tup
 deriving DecidableEq
abbrev Kd.ty:Kd->aa
 | .non=>.type "NoneType" | .bl=>.type "bool" | .int=>.type "int" | .str=>.type "str" | .lst=>.type "list" | .tup=>.type "tuple"
abbrev MB (H:Hp)(x:V):Kd->Prop
 | .non=>x=.non
 | .bl=>∃b,x=.bl b
 | .int=>∃i,x=.int i
 | .str=>∃s,x=.str s
 | .lst=>∃a xs,x=.ref a/\H a=some (.lst xs)
 | .tup=>∃a xs,x=.ref a/\H a=some (.tup xs)
def MB.RL{K:aA}{H:Hp}{x:V}{k:Kd}(h:MB H x k):TyOf K H x k.ty:=by
 cases k with
 | non=>cases h;exact .non
 | bl=>obtain⟨b,rfl⟩:=h;exact .bl b
 | int=>obtain⟨b,rfl⟩:=h;exact .int b
 | str=>obtain⟨b,rfl⟩:=h;exact .str b
 | lst=>obtain⟨a,xs,rfl,e⟩:=h;exact .lst e
 | tup=>obtain⟨a,xs,rfl,e⟩:=h;exact .tup e
def JU{K:aA}(k:Kd):PySem.W.kitOne K k.ty (.type "int")=some (decide<|k=.int\/k=.bl):=by cases k<;>rfl
def EY{K:aA}(k:Kd):PySem.W.kitOne K k.ty (.type "bool")=some (decide<|k=.bl):=by cases k<;>rfl
def kit_tuple{K:aA}(k:Kd):PySem.W.kitOne K k.ty (.type "tuple")=some (decide<|k=.tup):=by cases k<;>rfl
def Ii{K:aA}(k:Kd):PySem.W.kitOne K k.ty (.type "list")=some (decide<|k=.lst):=by cases k<;>rfl
def wX:bootBuiltins "enumerate" = some (.type "enumerate"):=by decide +kernel
section
variable {X:Cx}
def DF(hc:X.calm=true):jc X (.builtin "max") (λxs H Q=>∃(p:aq) (ns:ag),xs=[.ref p]/\jR X.K H p (ns.map V.int)/\0<ns.length/\∀M,M∈ns->(∀a∈ns,a<=M)->Q (.int M) H):=by
 kt_k;obtain⟨p,ns,rfl,B,f,q⟩:=h;kst_p
 cases rx
 obtain⟨G,L,J,N⟩:=I.list B;have hi:=intsAre_of L;have m:=J.isList;obtain⟨ys,e⟩:=hi.allInts.items;have d:ns=ys.toList.map (·.1):=by
  rw[<- hi.numsOf,<- nums_intItems,<- e]
 have g:0<ys.size:=by
  have z:=f;rw[d,aL,bZ]at z;exact z
 rw[e]at m;refine max_intList (I.ok.hd hc) m g λv h' O hv F=>?_;obtain⟨t,rfl⟩:=intItems_at hv;obtain⟨h1,h2⟩:=argBest_gt (numAt ys)<|ys.size-1;refine⟨.int _,H,I.kept F,⟨t,rfl⟩,q _ ?_ λa k=>?_⟩
 ·rw[d,numAt_eq];exact getD_mem (by rw[aL,bZ];lia)
 ·rw[d]at k;obtain⟨j,C,rfl⟩:=mem_getD k;rw[aL,bZ]at C;rw[<- numAt_eq];exact h2 j ()
end
section
variable {prog:ah}{w:af}{A:aC}{E:aa->aE->Prop}{s:aE}
def zV(n:Nat):Builtin.Slice.sliceAdjust none none (-1) (n:Int)=((n:Int)-1,-1):=by
 unfold Builtin.Slice.sliceAdjust;rfl
def zW(n:Nat):Builtin.Slice.slicePlaces ((n:Int)-1) (-1) (-1)=n:=by
 unfold Builtin.Slice.slicePlaces;have h1:¬((-1:Int)>0):=by decide
 dsimp[h1,cY];by_cases h:n=0
 ·subst h;simp
 ·rw[aR ()];rw[show(- -1:Int)=1 by decide,ediv_one]
  lia
def sN{t:Tok}{n:Nat}{Q:Int×Int×Nat->aE->Prop}(hs:s.heap.IsSliceOf sl .none .none<|.int (-1) t)
  (h:Q ((n:Int)-1,-1,n) s):wpAny (model prog w) A (Builtin.Slice.sliceApplied (.ref sl)<|pure (n:Int)) Q E s:=by
 obtain⟨os,d,f,hds⟩:=id hs;unfold Builtin.Slice.sliceApplied Builtin.Slice.sliceFields;refine aJ<|aJ<|f_ d hds (x:=.none) rfl<|aJ<|f_ d hds (x:=.none) rfl<|aJ<|f_ d hds (x:=.int (-1) t) rfl<|aO ?_;refine aJ (slicePart_int ?_)
 skip
 rw[aU ⋯];refine aJ<|slicePart_none<|aJ<|slicePart_none<|aJ<|aO ?_;show wpAny _ _ (match Builtin.Slice.sliceAdjust none none (-1) (n:Int)with|(lo,hi)=>pure (lo,(-1:Int),Builtin.Slice.slicePlaces lo hi<|-1)) _ _ s;rw[zV n];show wpAny _ _ (pure ((n:Int)-1,(-1:Int),Builtin.Slice.slicePlaces ((n:Int)-1) (-1)<|-1)) _ _ s;rw[zW];exact aO h
def Eu(xs:Array aa):((List.range xs.size).filterMap λ(m:Nat)=>xs[((xs.size:Int)-1+(m:Int) * (-1)).toNat]?).toArray=xs.toList.reverse.toArray:=by
 have e:(λ(m:Nat)=>xs[((xs.size:Int)-1+(m:Int) * (-1)).toNat]?)=(λx=>xs[x]?) ∘ λk=>xs.size-1-k:=by
  funext m
  have:((xs.size:Int)-1+(m:Int) * (-1)).toNat=xs.size-1-m:=()
  show xs[((xs.size:Int)-1+(m:Int) * (-1)).toNat]?=xs[xs.size-1-m]?;rw[this]
 rw[e,<- List.filterMap_map,PySem.W.krv_range,List.filterMap_reverse,PySem.W.krv_all]
def rC{t:aq}{J:Array aa}{Q:aa->aE->Prop}(L:IsTup s.heap t J)(hs:s.heap.IsSliceOf sl .none .none<|.int (-1) tk)
  (h:Q (.ref s.heap.objs.size) { s with heap:=s.heap.push { cls:=.type "tuple",data:=.seq J.toList.reverse.toArray }})
  (hsz:J.size<=sizeLine):wpAny (model prog w) A (getItem (.ref t)<|.ref sl) Q E s:=by
 have d:sizeOk (.seq J.toList.reverse.toArray):=by
  show J.toList.reverse.toArray.size<=sizeLine;rw[aW,gr,bZ];exact hsz
 obtain⟨os,g,f,hds⟩:=id hs;have j:s.TypeIs (.ref sl) "slice" := ⟨os,g,f⟩;unfold getItem
 try with_reducible refine cJ ?_
 first|refine aJ (aO ?_)|skip
 refine aJ<|wpAny_sequenceKey L.typeIs ⋯ ?_;refine aJ (dP (name:=Str.ofString "__getitem__") L.typeIs bY
  (dQ bY L.typeIs entry_tuple_getitem ?_<|args_tuple_getitem _ _))
 show wpAny _ _ (Builtin.Tuple.tupleItemsOf (.ref t) >>= _) _ _ s;refine aJ<|tupleItemsOf_ L ?_;refine aJ<|wpAny_typeOf j ?_;rw[aR ⋯];refine aJ<|sN hs ?_;have k:¬((((J.size:Int)-1) == 0 && (-1:Int) == 1 && J.size == J.size)=true):=by
  intro q;rw[c7,c7]at q;exact absurd q.1.2 ⋯
 show wpAny _ _ (if (((J.size:Int)-1) == 0 && (-1:Int) == 1 && J.size == J.size)=true then _ else _) _ _ s;rw[aU k,Eu]
 first
  | exact aJ (m:=Builtin.Tuple.tupleExact _) (bS (aO ⟨_,rfl,aO h⟩) d)
  | exact aJ (m:=Builtin.Tuple.tupleExact _) (bS (aJ<|aO<|aO ⟨_,rfl,aO h⟩) d)
  | exact aJ (aJ (m:=Builtin.Tuple.tupleExact _)<|bS (aO<|aO ⟨_,rfl,aO h⟩) d)
  | exact aJ<|aJ (m:=Builtin.Tuple.tupleExact _)<|bS (aO ⟨_,rfl,aO h⟩) d
end
section
variable {X:Cx}
abbrev PC (K:aA)(te:TE):TE:=λσ H Q=>te σ H λx H1=>∃a xs,x=.ref a/\lW K H1 a xs/\∀p,H1 p=none->Q (.ref p) (upd H1 p<|.tup xs.reverse)
def CH{te:TE}{up cp:Pos}(M:PE X e te):PE X (.Subscript e (.Slice none none (some<|.UnaryOp .USub (.Constant (.int 1) kk cp) up) p2) pos) (PC X.K te):=by
 w_up;refine Subscript_<|ju (M pins s σ H _ I h) λv C ⟨x,H1,I1,r1,a,xs,ex,z,q⟩=>?_;subst ex
 cases r1
 refine wpAny_Slice ?_;rw[gP];refine aO ?_;refine aO ?_;rw[evalPart_some];refine ju ((Il (a:=.Constant (.int 1) kk cp) Aq Au) pins C σ H1 (λv H'=>v=.int (-1)/\H'=H1) I1 ⟨1,rfl,rfl,rfl⟩) λL d h9=>?_;obtain⟨y,J,I3,r3,B,F⟩:=h9;subst B F;obtain⟨t,rfl⟩:=r3;have f:Inv X pins σ J { d with heap:=d.heap.push { cls:=.type "slice",data:=.fields #[.none,.none,.int (-1) t]}}:=I3.kept (t':=d.toks) λb ob q=>aQ _ q;obtain⟨g,m,j,G⟩:=f.tuple z
 skip
 refine tail_any (ops:=[.ref a,.ref d.heap.objs.size]) j.typeIs bY.lookup ?_ (by with_unfolding_all rfl);have k:=m.length;refine rC j (gz ..) ?_ (by rw[aW]<;>lia);refine⟨.ref _,_,f.laid (t':=d.toks) (o:=.tup xs.reverse) (λb o e=>aQ _ e) (aP _) ⟨by rw[gr];exact G,g.reverse,m.reverse,?_⟩,rfl,q _ f.fresh⟩;exact mV.new _ _
end
def xM(elt t1 i1 t2 i2:aF)(f1 f2:List aF)(scope:Scope)(pos:Pos)(it acc:aa)(env:Env) :
  compTurn (.ListComp elt [⟨t1,i1,f1,0⟩,⟨t2,i2,f2,0⟩] scope pos) 0 it acc env=(do
   standAt i1.pos
   match <- pyNext it with
   | none=>pure (.done .next)
   | some v=>
    letOwnedTupleGo t1 it v
    assign t1 env v
    let mut ok:=true
    for c in f1 do
     if ok then ok <- isTrue c env (eval c env)
    if ok then
     let x <- eval i2 env
     standAt i2.pos
     let x <- foldedSetIterable i2 env x
     let _ <- runOwn (.compStart (.ListComp elt [⟨t1,i1,f1,0⟩,⟨t2,i2,f2,0⟩] scope pos) 1 (<- holding [x] (pyIter x)) acc env) env
    again (.compLoop (.ListComp elt [⟨t1,i1,f1,0⟩,⟨t2,i2,f2,0⟩] scope pos) 0 it acc env)):=by rfl
def xC(elt t1 i1 t2 i2:aF)(f1 f2:List aF)(scope:Scope)(pos:Pos)(it acc:aa)(env:Env) :
  compTurn (.ListComp elt [⟨t1,i1,f1,0⟩,⟨t2,i2,f2,0⟩] scope pos) 1 it acc env=(do
   standAt i2.pos
   match <- pyNext it with
   | none=>pure (.done .next)
   | some v=>
    letOwnedTupleGo t2 it v
    assign t2 env v
    let mut ok:=true
    for c in f2 do
     if ok then ok <- isTrue c env (eval c env)
    if ok then
     (do let _ <- call (.builtin "list.append") [acc,<- eval elt env])
    again (.compLoop (.ListComp elt [⟨t1,i1,f1,0⟩,⟨t2,i2,f2,0⟩] scope pos) 1 it acc env)):=by rfl
section
variable {prog:ah}{w:af}{A:aC}{R:Result->aE->Prop}{s:aE}
def oX{t1:aF}{f1 f2:List aF}{env:Env}
  (h0:codeAny (model prog w) A (.compLoop (.ListComp elt [⟨t1,i1,f1,0⟩,⟨t2,i2,f2,0⟩] scope pos) 1 it acc env) R s)
  (h:wpAny (model prog w) A (pyIter it) (λit' s'=>codeAny (model prog w) A (.compLoop (.ListComp elt [⟨t1,i1,f1,0⟩,⟨t2,i2,f2,0⟩] scope pos) 1 it' acc env) R s')
   (notedBy (model prog w) A env λx s'=>R (.error x) s') s) :
  codeAny (model prog w) A (.compStart (.ListComp elt [⟨t1,i1,f1,0⟩,⟨t2,i2,f2,0⟩] scope pos) 1 it acc env) R s:=by
 refine codeAny_of_tree ?_
 skip
 refine wpAny_notedAt ?_;unfold compStart
 skip
 refine aJ<|wpAny_askSetting<|wpAny_ite ?_;split
 ·first
   | exact aJ (aO<|aO<|anI rfl h0)
   | exact aO<|anI rfl h0
 ·first
   | exact aJ (gA<|aJ<|bX<|aJ<|c9 h (λit' s' h'=>aO<|anI rfl h') λ_ _ x=>x)
   | (refine aJ<|gA ?_;show wpAny _ _ (standAt i2.pos >>= _) _ _ s;exact aJ<|bX<|aJ<|c9 h (λit' s' h'=>aO<|anI rfl h') λ_ _ x=>x)
end
abbrev ID (g:TG)(tc:TT)(te:TE)(D:aq)(L:L2.St->Hp->Prop)(σ:L2.St)(J:It)(H1:Hp):Prop:=
 ∃V:Nat->Nat->L2.St->Hp->Prop,(∃m,V 0 m σ H1)/\∀i m f H',V i m f H' ->
  (J.stop i H'/\L f H')\/(J.go i H'/\∀x H2,J.yld i H' x H2->g x f H2 λd k=>tc d k λb j=>
   if b=true then te d j λy H5=>∃ys,H5 D=some (.lst ys)/\ys.length<sizeLine/\∃m',m'<m/\V (i+1) m' d (upd H5 D<|.lst<|ys++[y])
   else ∃m',m'<m/\V (i+1) m' d j)
def zQ{Z:Cx}{t1:aF}{f1:List aF}{fp:bd}{tn:Nat->au->Prop}{H:Hp}{s:aE}{g:TG}{tc:TT}{te:TE}{Nn:L2.St->Hp->Prop}
  (hc:Z.calm=true) (hxe:Z.xe=λ_ _=>False) (T:Turn Z.prog Z.w Z.K tg J fp it tn) (I:Inv Z pins σ H s) (st:tn 0 s.heap) (hf:∀b∈fp,mX Z pins H b) (hg:PG Z tg g) (ht:zU Z ifs tc) (he:PE Z elt te) (goal:ID g tc te D Nn σ J H) :
  codeAny (model Z.prog Z.w) Z.A (.compLoop (.ListComp elt [⟨t1,i1,f1,0⟩,⟨tg,i2,ifs,0⟩] scope pos) 1 (.ref it) (.ref D) Z.env) (λr s'=>r=.ok .next/\∃σ' H',Inv Z pins σ' H' s'/\Nn σ' H') s:=by
 obtain⟨V,⟨m0,v0⟩,C⟩:=goal;have stat:∀{H':Hp},(∀b∈fp,H' b=none)->∀b∈fp,mX Z pins H' b:=λhn b hb=>⟨hn b hb,(hf b hb).2⟩;refine gw rfl (λn s'=>∃i σ' H',Inv Z pins σ' H' s'/\tn i s'.heap/\(∀b∈fp,H' b=none)/\V i n σ' H') (λn Y hI=>?_) m0 ⟨0,σ,H,I,st,λb hb=>(hf b hb).1,v0⟩;obtain⟨i,σ5,H5,P,F,G,w5⟩:=hI
 skip
 refine gH ?_;rw[xC];refine aJ (bX<|aJ ?_)
 rcases C i n σ5 H5 w5 with⟨B,q⟩|⟨go,step⟩
 ·refine ju (T.done Z rfl rfl rfl hc i pins Y σ5 H5 _ P (stat G) F B) λr s6 h9=>?_;obtain⟨hr,I6⟩:=h9;subst hr;exact aO ⟨rfl,σ5,H5,I6,q⟩
 ·refine ju (T.item Z rfl rfl rfl hc i pins Y σ5 H5 _ P (stat G) F go) λr s6 h9=>?_;obtain⟨u,hr,h6⟩:=h9;subst hr;kpc_g;f_are;have k:∀{α:Type} {t:Sem α} {Q U:α->aE->Prop} {E:aa->aE->Prop} {s:aE},wpAny (model Z.prog Z.w) Z.A t Q Z.xe s->(∀a s,Q a s->U a s)->wpAny (model Z.prog Z.w) Z.A t U E s:=λh hQ=>by
   rw[hxe]at h;exact rR h hQ
  refine aJ<|k (hg _ s7 σ5 H7 x u _ I7' r7<|step x H7 y7) λ_ s8 ⟨σ8,H8,I8,q8⟩=>?_;refine aJ<|k (ht _ s8 σ8 H8 _ I8 q8) λok s9 ⟨H9,W,L⟩=>?_;have j:∀{f:aE} {H10:Hp},Inv Z (pins++n5 fp s7.heap) σ8 H10 f->(∃m',m'<n/\V (i+1) m' σ8 H10) ->
    ∃m,m<n/\∃i σ' H',Inv Z pins σ' H' f/\tn i f.heap/\(∀b∈fp,H' b=none)/\V i m σ' H':=λ{f H10} I10 h9=>by
   obtain⟨m',hm,w10⟩:=h9;kj_on;obtain⟨o,e,d⟩:=T.obj _ _ st7 b hb;o_rec
  cases ok with
  | false=>
   rw[aU bf]at L;exact aO ⟨rfl,j W L⟩
  | true=>
   rw[aR rfl]at L;refine aJ<|aJ<|k (he _ s9 σ8 H9 _ W L) λy f ⟨z,H10,I10,O,ys,hD,hz,w10⟩=>?_;refine aJ<|k (rW _ f σ8 H10 (.ref D) [z] _ [y] (λ_ H'=>H'=upd H10 D (.lst<|ys++[z])) I10 rfl (.cons O .nil) ⟨_,ys,z,rfl,rfl,hD,hz,rfl⟩) λ_ s11 ⟨_,H11,M,_,N⟩=>?_;subst N;exact aO<|aO ⟨rfl,j M w10⟩
abbrev J5 (cap:List<|bo)(g:TG)(tc:TT)(wi2:TI)(g2:TG)(tc2:TT)(te:TE)(σ:L2.St)(Q:VK)(J:It)(H1:Hp):Prop:=∀D,H1 D=none ->
 ∃W:Nat->Nat->L2.St->Hp->Prop,(∃m,W 0 m (cap.map<|Fg σ)<|upd H1 D<|.lst [])/\∀i m f H',W i m f H' ->
  (J.stop i H'/\Q (.ref D) H')\/(J.go i H'/\∀x H2,J.yld i H' x H2->g x f H2 λd k=>tc d k λb j=>
   if b=true then wi2 d j (ID g2 tc2 te D (λσ5 H5=>∃m',m'<m/\W (i+1) m' σ5 H5) d)
   else ∃m',m'<m/\W (i+1) m' d j)
abbrev RA (cap:List<|bo)(j:TI)(g:TG)(tc:TT)(wi2:TI)(g2:TG)(tc2:TT)(te:TE):TE:=λσ H Q=>j σ H<|J5 cap g tc wi2 g2 tc2 te σ Q
def M5{X:Cx}{iter:aF}{N:ar}{wi wi2:TI}{g g2:TG}{tc tc2:TT}{te:TE}(hc:X.calm=true)(S:CpScope X scope N cap)(hi:PI X tg iter wi)
  (hg:∀C s₀ H₀ ex,PG (iU X scope N C s₀ H₀ ex) tg g) (ht:∀C s₀ H₀ ex,zU (iU X scope N C s₀ H₀ ex) ifs tc) (hi2:∀C s₀ H₀ ex,PI (iU X scope N C s₀ H₀ ex) tg2 iter2 wi2)
  (hg2:∀C s₀ H₀ ex,PG (iU X scope N C s₀ H₀ ex) tg2 g2) (ht2:∀C s₀ H₀ ex,zU (iU X scope N C s₀ H₀ ex) ifs2 tc2) (he:∀C s₀ H₀ ex,PE (iU X scope N C s₀ H₀ ex) elt te)
  (hs:(∀x,foldedSetIterable iter X.env x=pure x)<|>ζ) (hs2:∀env x,foldedSetIterable iter2 env x=pure x:=by intro _ _;rfl):PE X (.ListComp elt [⟨tg,iter,ifs,0⟩,⟨tg2,iter2,ifs2,0⟩] scope pos) (RA cap wi g tc wi2 g2 tc2 te):=by
 w_up;k_ne;rw[eval_ListComp];refine fj (use:=none) rfl hs (qx hfree) S.kind S.nm<|ju (hi pins s σ H _ I h) λxv s1 h1=>ju h1 λitv f h2=>?_;obtain⟨it,fp,tn,J,H2,rfl,I2,T,V,f2,h2⟩:=h2;refine bS<|xw λL j old k=>?_;obtain⟨W,⟨m0,w0⟩,turn⟩:=h2 f.heap.objs.size I2.fresh;dsimp only at j old k ⊢;have I3:Inv X pins σ (upd H2 f.heap.objs.size<|.lst []) { f with heap:=f.heap.push {}}:=I2.F1 (t':=f.toks) (its:=[]) .nil<|bN _;have Y:∀b∈fp,∃o,f.heap.get? b=some o:=λb hb=>by
  obtain⟨o,e,_⟩:=T.obj 0 _ V b hb;exact⟨o,e⟩
 have neD:∀b∈fp,b≠f.heap.objs.size:=λb hb=>by
  obtain⟨o,e⟩:=Y b hb;exact bB<|aZ e
 have f3:∀b∈fp,mX X pins (upd H2 f.heap.objs.size<|.lst []) b:=λb hb=>⟨by rw[iB<|neD b hb];exact(f2 b hb).1,(f2 b hb).2⟩;have hDC:f.heap.objs.size≠(f.heap.push {}).objs.size:=by rw[dS];exact bB (bD _)
 have I4:=Ad (tk:=f.toks+([]:List<|Str×aa).length) (fp:=fp) S I3 f3 (λb hb=>by
  obtain⟨o,e⟩:=Y b hb;exact⟨o,aQ _ e⟩) j k old
 have U:tn 0 L:=T.keep _ _ _ V λb hb o e=>old b o<|aQ _ e;have stat:∀{H':Hp},(∀b∈fp,H' b=none)->∀b∈fp,mX (iU X scope N (f.heap.push {}).objs.size { f with heap:=f.heap.push {}} (upd H2 f.heap.objs.size<|.lst []) fp) [] H' b:=λhn b hb=>by
  have ok:=I4.ok;kpf_c
 have O:∀s4:aE,s4={ f with heap:=L,toks:=f.toks+([]:List<|Str×aa).length } ->
   codeAny (model X.prog X.w) X.A (.compLoop (.ListComp elt [⟨tg,iter,ifs,0⟩,⟨tg2,iter2,ifs2,0⟩] scope pos) 0 (.ref it) (.ref f.heap.objs.size)<|compEnvC scope (cellsFrom ((f.heap.push {}).objs.size+1) scope.names<|oU X.env scope.names []) (f.heap.push {}).objs.size X.env)
    (compPost (model X.prog X.w) X.A X.xe none (EP X pins σ Q) (.ref f.heap.objs.size) (f.heap.push {}).objs.size) s4:=by
  rintro s4 rfl;refine gw rfl (λn s'=>∃i F H',Inv (iU X scope N (f.heap.push {}).objs.size { f with heap:=f.heap.push {}} (upd H2 f.heap.objs.size<|.lst []) fp) [] F H' s'/\tn i s'.heap/\(∀b∈fp,H' b=none)/\W i n F H') (λn s5 hI=>?_) m0 ⟨0,_,_,I4,U,λb hb=>(f3 b hb).1,w0⟩;obtain⟨i,σ5,H5,I5,st5,fr5,w5⟩:=hI;show wpAny _ X.A ((compTurn (.ListComp elt [⟨tg,iter,ifs,0⟩,⟨tg2,iter2,ifs2,0⟩] scope pos) 0 (.ref it) (.ref f.heap.objs.size)<|compEnvC scope (cellsFrom ((f.heap.push {}).objs.size+1) scope.names<|oU X.env scope.names []) (f.heap.push {}).objs.size X.env).onRaise λx=>do noteFrame x _;theTreesLotGoes x) _ _ s5;refine gH ?_;rw[xM];refine aJ (bX<|aJ ?_)
  rcases turn i n σ5 H5 w5 with⟨stop,q⟩|⟨go,step⟩
  ·refine ju (T.done (iU X scope N (f.heap.push {}).objs.size { f with heap:=f.heap.push {}} (upd H2 f.heap.objs.size<|.lst []) fp) rfl rfl rfl hc i [] s5 σ5 H5 _ I5 (stat fr5) st5 stop) λr s6 h9=>?_;obtain⟨hr,I6⟩:=h9;subst hr;obtain⟨m6,hn6,_⟩:=I6.loc;refine aO ⟨m6,hn6,λh' sb=>?_⟩;have u6:=I6.base;have nC:∀b o,(f.heap.push {}).get? b=some o->b≠(f.heap.push {}).objs.size:=λb o e=>bB<|aZ e;refine⟨.ref f.heap.objs.size,H5,?_,rfl,q⟩;kd_p
   ·exact sb.extBut b o (nC b o e) (u6.keep b o e n hb hx)
   ·obtain⟨sl,z⟩:=u6.slot b o e n hb hx;exact⟨sl,sb.extBut b _ (nC b o e) z⟩
   ·exact u6.free b o e n hx
   ·obtain⟨o',z⟩:=u6.there b o e hx;exact⟨o',sb.extBut b _ (nC b o e) z⟩
   ·intro b o e;have hb:∀c v,H5 c=some v->c≠(f.heap.push {}).objs.size:=λc v e z=>by
     rw[z]at e;have:=I6.free;rw[show H5 (f.heap.push {}).objs.size=none from this]at e
     cases e
    refine(I6.hok b o e).stay (λc v hc q=>sb.extBut c v ?_ q) (λ_ q=>q) λ_ _ q=>q
    rcases hc with z|z
    ·rw[z];exact hb b o e
    ·exact hb c _ z
   ·intro b hb;obtain⟨_,z1,_,z3,z4,z5⟩:=f3 b hb;exact⟨z3,z1,z4,z5⟩
  ·refine ju (T.item (iU X scope N (f.heap.push {}).objs.size { f with heap:=f.heap.push {}} (upd H2 f.heap.objs.size<|.lst []) fp) rfl rfl rfl hc i [] s5 σ5 H5 _ I5 (stat fr5) st5 go) λr s6 h9=>?_;obtain⟨u,hr,h6⟩:=h9;subst hr;kpc_g;f_are;kln_w;refine aJ<|rR (ht _ _ _ fp _ s8 σ8 H8 _ I8 q8) λok s9 ⟨H9,I9,q9⟩=>?_;have B:∀{G:aE} {H10:Hp} {t:L2.St},Inv (iU X scope N (f.heap.push {}).objs.size { f with heap:=f.heap.push {}} (upd H2 f.heap.objs.size<|.lst []) fp) ([]++n5 fp s7.heap) t H10 G->(∃m',m'<n/\W (i+1) m' t H10) ->
     ∃m,m<n/\∃i F H',Inv (iU X scope N (f.heap.push {}).objs.size { f with heap:=f.heap.push {}} (upd H2 f.heap.objs.size<|.lst []) fp) [] F H' G/\tn i G.heap/\(∀b∈fp,H' b=none)/\W i m F H':=λ{G H10 t} I10 h9=>by
    obtain⟨m',hm,w10⟩:=h9;refine⟨m',hm,i+1,t,H10,I10.kg,T.keep _ _ _ st7 λb hb o e=>(I10.pin (b,o)<|aT _<|aT _<|jd hb e).1,λb hb=>?_,w10⟩;obtain⟨o,e,d⟩:=T.obj _ _ st7 b hb;o_rec
   cases ok with
   | false=>
    rw[aU bf]at q9;exact aO ⟨rfl,B I9 q9⟩
   | true=>
    rw[aR rfl]at q9;refine aJ<|rR (hi2 _ _ _ fp _ s9 σ8 H9 _ I9 q9) λxv G h10=>aJ<|bX ?_;rw[hs2];refine aJ<|aO<|aJ<|cJ<|rR h10 λitv s11 h11=>?_;obtain⟨it2,fp2,tn2,J2,H11,rfl,P,T2,M,f11,goal⟩:=h11;have hcz:=hc;have K:=(λ(Z:Cx) (h1:Z.calm=true) (h2:Z.xe=λ_ _=>False) T2 P=>zQ (Z:=Z) (t1:=tg) (i1:=iter) (f1:=ifs) (i2:=iter2) (scope:=scope) (pos:=pos) h1 h2 T2 P) _ (show(iU X scope N _ _ _ fp).calm=true from hcz) rfl T2 P M f11 (hg2 _ _ _ fp) (ht2 _ _ _ fp) (he _ _ _ fp) goal;refine aJ<|wpAny_runOwn<|gv (oX K<|T2.self _ 0 _ _ _ M K) λr s12 hr12=>?_;obtain⟨hr,σ12,H12,I12,n12⟩:=hr12;subst hr;exact aO ⟨rfl,B I12 n12⟩
 exact codeAny_compStart_list (O _ rfl)<|T.self _ 0 _ _ _ U<|O _ rfl
end L2
namespace L2
open PySem PySem.Spec PyProof.Rows
open PySem.SeqAt
open PySem.AutoSeq1 (wpAny_loadPart')
open PySem.MeetsSeq PySem.MeetsSeq2 PySem.MeetsSeq3 PySem.SeqAt
section
variable {X:Cx}
def HX:lV X (binaryOp .FloorDiv) (rI (λ_ j=>0<j/\j<18446744073709551616) λi j=>.int<|i / j):=Qt λi j _ _ _ _ _ hc q=>by
 have h1:(0:Int)<j:=hc.1;have h2:j<18446744073709551616:=hc.2;refine floordiv_int (by omega) (by rw[Int.fdiv_eq_ediv_of_nonneg i<|by omega];exact q)<|.inl<|PyProof.noPylong_of_log2 ?_;exact bM ((Nat.log2_lt<|by omega).mpr<|show j.natAbs<2 ^ 64 by omega) ⋯
end
end L2
namespace L2
open PySem PySem.Spec PyProof.Rows
abbrev RG (x:Str):It:=⟨λi _=>i<x.cps.size,λi H v H'=>H'=H/\∃c,x.cps[i]?=some c/\v=.str ⟨#[c]⟩,λi _=>i=x.cps.size⟩
def IA{P:ah}{w:af}{K:aA}(x:Str)(t:Tok)(it:aq):Turn P w K tg (RG x) [it] it (λi h=>h.IsStrIter it "str_ascii_iterator" x t i) where
 mem:=by simp
 obj:=λi h st b hb=>by
  have e:b=it:=by simpa using hb
  subst e;obtain⟨o,e,c,d⟩:=st;exact⟨o,e,λv z=>by rw[d]at z;cases z⟩
 keep:=λi h h' st k=>let⟨o,ho,r⟩:=st;⟨o,k it (by simp) o ho,r⟩
 item:=by
  room;subst hP hw hK;fin2;have W:=Walks.strAscii (prog:=X.prog) (w:=X.w) (I.ok.hd hc) it x t;refine W.item i s _ _ hg st λv h' m hv f j=>?_;obtain⟨c,u,g,rfl⟩:=hv;have I1:Inv X pins σ H { s with heap:=h',toks:=m }:=I.turned (λb o hb e=>j b o (by simpa using hb) e) f0 f1 f3 f4 f5;obtain⟨o,e,B,d⟩:=id f;exact⟨_,rfl,wo (s:={ s with heap:=h',toks:=m }) e B d ⋯ ⟨.str ⟨#[c]⟩,H,I1,⟨u,rfl⟩,⟨rfl,c,g,rfl⟩,f,λb hb=>(hf b hb).1⟩⟩
 done:=by
  room;subst hP hw hK;fin2;have hg:i=x.cps.size:=hg;subst hg;have W:=Walks.strAscii (prog:=X.prog) (w:=X.w) (I.ok.hd hc) it x t;exact W.done s _ _ st λh' m j=>⟨rfl,I.turned (λb o hb e=>j b o (by simpa using hb) e) f0 f1 f3 f4 f5⟩
 self:=λ_ _ _ _ _ st h=>wpAny_pyIter_striter_ascii st h
section
variable {X:Cx}{tg:aF}
abbrev QI (tl:TE):TI:=λσ H R=>tl σ H λx H1=>∃y:Str,x=.str y/\y.cps.all (· < 128)=true/\R (RG y) H1
def Nj{tl:TE}(j:PE X l tl):PI X tg l (QI tl):=by
 intro pins s σ H R I h;refine ju (j pins s σ H _ I h) λv d h9=>?_;obtain⟨x,H1,I1,r1,g⟩:=h9;obtain⟨y,e,f,q⟩:=g;subst e;obtain⟨t,rfl⟩:=r1;refine wpAny_pyIter_ascii f ?_;refine⟨d.heap.objs.size,[d.heap.objs.size],_,_,H1,rfl,I1.kept (t':=d.toks) λb o e=>aQ _ e,IA y t _,⟨_,bI _ rfl,rfl,rfl⟩,λb hb=>?_,q⟩;have e:b=d.heap.objs.size:=by simpa using hb
 subst e;cb_eq
end
section
variable {κ:Type}[DecidableEq κ]
abbrev mL (kvs:List<|κ×V)(k:κ):Option V:=(kvs.find? λd=>decide<|d.1=k).map (·.2)
abbrev putK (kvs:List<|κ×V)(k:κ)(v:V):List (κ×V):=
 if (kvs.any λd=>decide<|d.1=k)=true then kvs.map (λd=>if d.1=k then(d.1,v)else d)else kvs++[(k,v)]
def pC{p:κ×V}{r:List<|κ×V}{k:κ}(e:p.1=k):mL (p::r) k=some p.2:=by simp[mL,cz,e]
def o_{p:κ×V}{r:List<|κ×V}{k:κ}(e:¬p.1=k):mL (p::r) k=mL r k:=by simp[mL,cz,e]
theorem rL(k:κ):∀kvs:List<|κ×V,(kvs.any λkv=>decide<|kv.1=k)=(mL kvs k).isSome
 | []=>rfl
 | p::r=>by
  rw[eE];by_cases e:p.1=k
  ·dsimp[pC e,bu e,Bool.true_or,isSome_some]
  ·rw[o_ e,bw e,Bool.false_or];exact rL k r
def m9(kvs:List<|κ×V)(k:κ)(v:V):(putK kvs k v).length<=kvs.length+1:=by
 unfold putK;split
 ·rw[aL];lia
 ·rw[aY,bz,eg];lia
def ve.DL{o:Option V}{u:bi}(r:ve o u):o.isSome=u.isSome:=by
 cases o with
 | none=>cases u with
  | none=>rfl
  | some _=>exact(show False from r).elim
 | some _=>cases u with
  | none=>exact(show False from r).elim
  | some _=>rfl
def KV.val(r:KV kvs vs)(k:κ):ve (mL kvs k) (valueAt vs k):=by
 unfold KV at r
 induction r with
 | nil=>exact True.intro
 | @cons p q ps f h t g=>
  obtain⟨h1,h2⟩:=h;by_cases e:p.1=k
  ·have d:q.1=k:=h1.symm.trans e;have b:valueAt (q::f) k=some q.2:=by simp[valueAt,cz,d]
   rw[pC e,b];exact h2
  ·have d:¬q.1=k:=λz=>e<|h1.trans z;have b:valueAt (q::f) k=valueAt f k:=by simp[valueAt,cz,d]
   rw[o_ e,b];exact g
def KV.any{kvs:List<|κ×V}{vs:List<|κ×aa}(r:KV kvs vs)(k:κ):(kvs.any λkv=>decide<|kv.1=k)=vs.any λkv=>decide (kv.1=k):=by
 unfold KV at r
 induction r with
 | nil=>rfl
 | cons h t d=>rw[eE,eE,d,h.1]
def KV.repl{kvs:List<|κ×V}{vs:List<|κ×aa}(r:KV kvs vs)(k:κ)(ry:RelV y u) :
  KV (kvs.map λkv=>if kv.1=k then(kv.1,y)else kv) (vs.map λkv=>if kv.1=k then(kv.1,u)else kv):=by
 unfold KV at r ⊢
 induction r with
 | nil=>exact .nil
 | @cons p q ps f h t d=>
  rw[bC,bC];refine .cons ?_ d;obtain⟨h1,h2⟩:=h;by_cases e:p.1=k
  ·rw[aR e,aR<|h1.symm.trans e];exact⟨h1,ry⟩
  ·rw[aU e,aU λz=>e<|h1.trans z];exact⟨h1,h2⟩
def KV.put(r:KV kvs vs)(k:κ)(ry:RelV y u):KV (putK kvs k y) (stored vs k u):=by
 unfold putK stored;rw[r.any k];by_cases e:(vs.any λd=>decide<|d.1=k)=true
 ·rw[aR e,aR e];exact r.repl k ry
 ·rw[aU e,aU e];exact Paired.snoc r ⟨rfl,ry⟩
def KV.length{kvs:List<|κ×V}{vs:List<|κ×aa}(r:KV kvs vs):kvs.length=vs.length:=f9 r
end
def Bh{P:ah}{w:af}{k:Key}(r:RelV (kV k) u):(jB P w).is k u=true:=by
 cases k with
 | inl i=>obtain⟨t,e⟩:=(show ∃t,u=Value.int i t from r);subst e;exact yJ P w i t
 | inr x=>obtain⟨t,e⟩:=(show ∃t,u=Value.str x t from r);subst e;exact zl P w x t
theorem vU{P:ah}{w:af}:∀{ks:List Key}{us:ba},Vals (ks.map kV) us->ItemsAre (jB P w) ks us
 | [],_,r=>by rw[dD]at r;cases r;exact .nil
 | k::ks,_,r=>by
  rw[bC]at r
  cases r with
  | cons h t=>exact .cons (Bh h)<|vU t
meta abbrev KT (H:Hp):List (List Key×V)->List (List Key×aq×aa)->Prop:=Paired λp q=>p.1=q.1/\H q.2.1=some (.tup<|p.1.map kV)/\RelV p.2 q.2.2
def KT.val{H:Hp}(r:KT H kvs xs)(k:List Key):ve (mL kvs k) ((atKey xs k).map (·.2)):=by
 induction r with
 | nil=>exact True.intro
 | @cons p q ps f h t g=>
  obtain⟨h1,_,h2⟩:=h;by_cases e:p.1=k
  ·have d:q.1=k:=h1.symm.trans e;have b:atKey (q::f) k=some q.2:=by simp[atKey,cz,d]
   rw[pC e,b];exact h2
  ·have d:¬q.1=k:=λz=>e<|h1.trans z;have b:atKey (q::f) k=atKey f k:=by simp[atKey,cz,d]
   rw[o_ e,b];exact g
def KT.repl{H:Hp}{kvs:List<|List Key×V}{xs:List<|List Key×aq×aa}(r:KT H kvs xs)(k:List Key)(ry:RelV y u) :
  KT H (kvs.map λkv=>if kv.1=k then(kv.1,y)else kv) (xs.map<|putAt k u):=by
 induction r with
 | nil=>exact .nil
 | @cons p q ps g h t f=>
  rw[bC,bC];refine .cons ?_ f;obtain⟨h1,h2,d⟩:=h;unfold putAt;by_cases e:p.1=k
  ·rw[aR e,aR<|h1.symm.trans e];exact⟨h1,h2,ry⟩
  ·rw[aU e,aU λz=>e<|h1.trans z];exact⟨h1,h2,d⟩
def KT.put{H:Hp}(r:KT H kvs xs)(k:List Key)(hb:H b=some (.tup<|k.map kV))(ry:RelV y u) :
  KT H (putK kvs k y) (storedH xs k b u):=by
 have e:(kvs.any λd=>decide<|d.1=k)=(atKey xs k).isSome:=by
  rw[rL,(r.val k).DL,isSome_map]
 unfold putK storedH;rw[e];by_cases q:(atKey xs k).isSome=true
 ·rw[aR q,aR q];exact r.repl k ry
 ·rw[aU q,aU q];exact Paired.snoc r ⟨rfl,hb,ry⟩
def KT.keeps{H H':Hp}(r:KT H kvs xs)(j:∀b ys,H b=some (.tup ys)->H' b=some (.tup ys)):KT H' kvs xs:=
 Paired.MM r λ_ _ z=>⟨z.1,j _ _ z.2.1,z.2.2⟩
section
variable {P:ah}{w:af}{H:Hp}{h:au}{a:aq}
def Lc(ok:qN P w H h)(e:Rd H a u):jq P w H h a u:=e.ok ok
def AY{kvs:List<|Key×V}(ok:qN P w H h)(e:Rd H a<|.dK kvs):kvs.length<=sizeLine/\(a == sysModules)=false/\∃vs,KV kvs vs/\h.DictOf (jB P w) a vs:=
 show jq P w H h a (.dK kvs)from Lc ok e
def Lp{kvs:List<|Key×V}(ok:qN P w H h)(e:H a=some (.dK kvs)):kvs.length<=sizeLine/\(a == sysModules)=false/\∃vs,KV kvs vs/\h.DictOf (jB P w) a vs:=AY ok<|.inl e
def sU{ks:List Key}(ok:qN P w H h)(e:H a=some (.tup<|ks.map kV)):(tupleKind<|jB P w).is h ks a:=by
 obtain⟨_,d,r,o,h1,h2,_,n,f⟩:=(show jq P w H h a (.tup<|ks.map kV)from ok a _ e);exact⟨o,d.toArray,n,h1,h2,f,by simpa using vU r⟩
def Ct{kvs:List<|List Key×V}(ok:qN P w H h)(e:Rd H a<|.dT kvs):kvs.length<=sizeLine/\(a == sysModules)=false /\
  ∃xs,KT H kvs xs/\h.DictOfH (tupleKind<|jB P w) a xs:=by
 obtain⟨z,y,xs,r,o,es,ep,h1,h2,g,j,f⟩:=(show jq P w H h a (.dT kvs)from Lc ok e);refine⟨z,y,xs,r,o,es,ep,h1,h2,g,j,λx hx=>?_,f⟩;have all:∀{l:List<|List Key×V} {m:List<|List Key×aq×aa},KT H l m->∀x∈m,(tupleKind<|jB P w).is h x.1 x.2.1:=by
  intro l m q
  induction q with
  | nil=>intro x hx;exact nomatch hx
  | @cons p q ps B d t k=>
   intro x hx
   rcases a_.mp hx with e|hx
   ·subst e;exact sU ok (by rw[<- d.1];exact d.2.1)
   ·exact k x hx
 exact all r x hx
def vI{kvs:List<|List Key×V}(ok:qN P w H h)(e:H a=some (.dT kvs)):kvs.length<=sizeLine/\(a == sysModules)=false /\
  ∃xs,KT H kvs xs/\h.DictOfH (tupleKind<|jB P w) a xs:=Ct ok<|.inl e
end
abbrev tR (H:Hp)(a:aq)(y:V)(r:Option V):Prop:=
 (∃kvs k,Rd H a (.dK kvs)/\y=kV k/\r=mL kvs k)\/∃kvs k b,Rd H a (.dT kvs)/\y=.ref b/\H b=some (.tup<|k.map kV)/\r=mL kvs k
abbrev ug (H:Hp)(a:aq)(y v:V)(H':Hp):Prop:=
 (∃kvs k,H a=some (.dK kvs)/\y=kV k/\kvs.length<sizeLine/\H'=upd H a (.dK<|putK kvs k v)) \/
 ∃kvs k b,H a=some (.dT kvs)/\y=.ref b/\H b=some (.tup<|k.map kV)/\kvs.length<sizeLine/\H'=upd H a (.dT<|putK kvs k v)
theorem tR.k{H:Hp}{a:aq}{k:Key}(e:H a=some (.dK kvs)):tR H a (kV k) (mL kvs k):=.inl ⟨kvs,k,.inl e,rfl,rfl⟩
def tR.t{H:Hp}{a:aq}{k:List Key}(e:H a=some (.dT kvs))(j:H b=some (.tup<|k.map kV)):tR H a (.ref b) (mL kvs k):=.inr ⟨kvs,k,b,.inl e,rfl,j,rfl⟩
theorem ug.k{H:Hp}{a:aq}{kvs:List<|Key×V}{k:Key}{v:V}(e:H a=some (.dK kvs))(j:kvs.length<sizeLine):ug H a (kV k) v (upd H a<|.dK<|putK kvs k v):=.inl ⟨kvs,k,e,rfl,j,rfl⟩
def ug.t{H:Hp}{a:aq}{kvs:List<|List Key×V}{k:List Key}{v:V}(e:H a=some (.dT kvs))(j:H b=some (.tup<|k.map kV))(J:kvs.length<sizeLine) :
  ug H a (.ref b) v (upd H a<|.dT<|putK kvs k v):=.inr ⟨kvs,k,b,e,rfl,j,J,rfl⟩
section
variable {X:Cx}{pins:bt}{σ:St}{H:Hp}{s:aE}{a:aq}{y v:V}{u r:aa}{o:Option V}{A:aC}{E:aa->aE->Prop}
def Inv.big(I:Inv X pins σ H s):sysModules<s.heap.objs.size:=by
 have h:mainGlobals<s.heap.objs.size:=(I.mod.glob.keeps I.bk).lt;exact Nat.lt_trans ⋯ h
def Eb{Q:aa->aE->Prop}(J:A.units+1<cLine)(I:Inv X pins σ H s)(g:tR H a y<|some v)(ry:RelV y u)(h:∀w' s',Inv X pins σ H s'->RelV v w'->Q w' s') :
  wpAny (model X.prog X.w) A (getItem (.ref a) u) Q E s:=by
 rcases g with⟨kvs,k,e,j,l⟩|⟨kvs,k,b,e,j,B,l⟩
 ·subst j;obtain⟨z,hd,t,f,dd⟩:=AY I.hok e;obtain⟨w',hw,d⟩:=ve.some_of (v:=v) (o:=valueAt t k) (by rw[l];exact f.val k);exact wpAny_getItem_of (Bh ry) dd.mapOf hw (h w' _ (I.tok _) d)
 ·subst j
  cases(show u=Value.ref b from ry)
  obtain⟨z,hd,xs,f,dd⟩:=Ct I.hok e;obtain⟨w',hw,d⟩:=ve.some_of (v:=v) (o:=(atKey xs k).map (·.2)) (by rw[l];exact f.val k);obtain⟨p,hp,m⟩:=bh.mp hw;refine wpAny_getItem_heap (gB J) (sU I.hok B) dd hp ?_;rw[m];exact h w' _ (I.tok _) d
def p7{h':au}{t':Nat}{ob:HO}(I:Inv X pins σ H s)(j:O5<|H a)(hs:Heap.SameBut a s.heap h')(J:∃q,h'.get? a=some q)(new:jq X.prog X.w (upd H a ob) h' a ob) :
  Inv X pins σ (upd H a ob) { s with heap:=h',toks:=t' }:=
 I.write (x:=a) (e:=a) j (.inl rfl) (λb q hb z=>(hs.2 b hb).trans z) J new
def Hf{P:ah}{w:af}{H':Hp}{h':au}{kvs:List<|Key×V}(z:kvs.length<=sizeLine)(hd:(a == sysModules)=false)(j:KV kvs vs)(dd:h'.DictOf (jB P w) a vs) :
  jq P w H' h' a (.dK kvs):=⟨z,hd,vs,j,dd⟩
def D9{H':Hp}{Q:Unit->aE->Prop}(Z:A.units+1<cLine)(I:Inv X pins σ H s)(g:ug H a y v H')(ry:RelV y u)(U:RelV v r)(h:∀s',Inv X pins σ H' s'->Q Unit.unit s') :
  wpAny (model X.prog X.w) A (setItem (.ref a) u r) Q E s:=by
 rcases g with⟨kvs,k,e,m,l,B⟩|⟨kvs,k,b,e,m,G,l,B⟩
 ·subst m B;obtain⟨z,hd,K,d,dd⟩:=Lp I.hok e;have C:K.length<=sizeLine:=by rw[<- d.length];exact z
  have t:(putK kvs k v).length<=sizeLine:=by have:=m9 kvs k v;lia
  refine wpAny_setItem_pairs (hsz:=C) (Bh ry) dd λh' f hs=>h _ ?_;have M:∃q,h'.get? a=some q:=let⟨q,_,_,j,_⟩:=f;⟨q,j⟩
  exact p7 I (by rw[e];exact True.intro) hs M<|Hf t hd (d.put k U) f
 ·subst m B
  cases(show u=Value.ref b from ry)
  obtain⟨z,hd,xs,d,dd⟩:=vI I.hok e;have C:xs.length<=sizeLine:=by rw[<- f9 d];exact z
  have t:(putK kvs k v).length<=sizeLine:=by have:=m9 kvs k v;lia
  refine wpAny_setItem_heap (hsz:=C) (gB Z) (sU I.hok G) dd λh' f hs=>h _ ?_;obtain⟨q,es,ep,j,h2,N,L,_,J⟩:=f;refine p7 I (by rw[e];exact True.intro) hs ⟨q,j⟩ ⟨t,hd,_,(d.put k G U).keeps λc ys F=>?_,q,es,ep,j,h2,N,L,J⟩;rw[iB<|AB F e λz=>nomatch z];exact F
end
section
variable {X:Cx}{pins:bt}{σ:St}{H:Hp}{s:aE}{a:aq}{kvs:List (Key×V)}{A:aC}{E:aa->aE->Prop}
def PM{Q:aa->aE->Prop}(I:Inv X pins σ H s)(e:Rd H a<|.dK kvs)(h:∀t s',Inv X pins σ H s'->Q (.int kvs.length t) s'):wpAny (model X.prog X.w) A (call (.builtin "len") [.ref a]) Q E s:=by
 obtain⟨z,hd,f,d,dd⟩:=AY I.hok e;refine call_len_dict hd dd (by rw[<- d.length];rw[cS]at z;lia) ?_;rw[<- d.length];exact h _ _<|I.tok _
end
def zu{H:Hp}{s:aE}{a:aq}(I:Inv X pins σ H s)(g:tR H a y o):s.TypeIs (.ref a) "dict" := by
 rcases g with⟨kvs,k,e,_,_⟩|⟨kvs,k,b,e,_,_,_⟩
 ·obtain⟨_,_,d,_,dd⟩:=AY I.hok e;exact dd.typeIs
 ·obtain⟨_,_,xs,_,dd⟩:=Ct I.hok e;exact dd.typeIs
def EC{P:ah}{w:af}{H:Hp}(h:au)(hb:sysModules<h.objs.size):jq P w H (h.push { cls:=.type "dict",data:=.dict #[]}) h.objs.size (.dK []):=
 ⟨bN _,cX.mpr<|b_<|bB hb,[],.nil,Heap.DictOf.new h⟩
def Ig{P:ah}{w:af}{H:Hp}(h:au)(hb:sysModules<h.objs.size):jq P w H (h.push { cls:=.type "dict",data:=.dict #[]}) h.objs.size (.dT []):=
 ⟨bN _,cX.mpr<|b_<|bB hb,[],.nil,_,#[],0,bI _ rfl,⟨rfl,rfl,rfl⟩,rfl,rfl,List.nodup_nil⟩
structure M1 (X:Cx)(o:aF)(m:Str)(apos:Pos)(e:aF)(cpos:Pos):Prop where
 base:attributeBase o m X.env (eval o X.env)=eval o X.env
 few:((backTo cpos<|starEach [e] X.env).all (λx=>!x.1) && (backToKw cpos<|keywordEach [] X.env).all (λx=>x.1.isSome)
  && decide (([e]:List aF).length+([]:List Keyword).length+(if ([]:List Keyword).isEmpty then 0 else 1)<30))=true
 line:(apos.endLine == cpos.line)=true
 trees:backTo cpos (starEach [e] X.env)=[(false,eval e X.env)]
structure M2 (X:Cx)(o:aF)(m:Str)(apos:Pos)(e f:aF)(cpos:Pos):Prop where
 base:attributeBase o m X.env (eval o X.env)=eval o X.env
 few:((backTo cpos<|starEach [e,f] X.env).all (λx=>!x.1) && (backToKw cpos<|keywordEach [] X.env).all (λx=>x.1.isSome)
  && decide (([e,f]:List aF).length+([]:List Keyword).length+(if ([]:List Keyword).isEmpty then 0 else 1)<30))=true
 line:(apos.endLine == cpos.line)=true
 trees:backTo cpos (starEach [e,f] X.env)=[(false,eval e X.env),(false,eval f X.env)]
meta abbrev Ej:=ag×ag
abbrev LG (x:ag):Int:=reduceHash<|Builtin.Tuple.tupleHashOf<|x.map hashInt
abbrev Qp (k:Ej):Int:=reduceHash<|Builtin.Tuple.tupleHashOf [LG k.1,LG k.2]
abbrev Tt (x:(Ej×aq×aa)):DictEntry:=⟨Qp x.1,.ref x.2.1,x.2.2⟩
abbrev Q8 (a:aq)(xs:List<|Ej×aq×aa)(h:au):Prop:=(a == sysModules)=false/\xs.length<=sizeLine/\∃o es ep,h.get? a=some o/\o.ExactDict/\o.data=.dict es ep/\es.toList=xs.map Tt/\(xs.map (·.1)).Nodup
abbrev zz (H:Hp)(b:aq)(k:Ej):Prop:=∃r1 r2,H b=some (.tup [.ref r1,.ref r2])/\H r1=some (.tup<|k.1.map V.int)/\H r2=some (.tup<|k.2.map V.int)
section
variable {X:Cx}
def A_(J:X.A.units+1<cLine):K3 X (λx y H Q=>∃a v,x=.ref a/\tR H a y (some v)/\Q v H):=by
 intro j f pins s σ H x y v u Q I rx ry h hs;obtain⟨a,z,rfl,g,q⟩:=h
 cases rx
 have t:=zu I g;unfold subscriptTail;refine aJ ?_;rw[getitemInPython_of_ne t.not_modules];refine aJ<|wpAny_specialOf t PySem.F.slot_dict_getitem.lookup ?_;have d:wpAny (model X.prog X.w) X.A (subscripted f false (.ref a) u) (λr k=>wpAny (model X.prog X.w) X.A (letTemporaryGo j (.ref a) r >>= λ_=>pure r) (EP X pins σ Q) X.xe k) X.xe s:=by
  rw[hs];exact wpAny_operating<|Eb J I g ry λC B I3 m=>aJ<|wpAny_letTemporaryGo<|aO ⟨z,H,I3,m,q⟩
 first
  | exact aO (aJ d)
  | exact aJ (aO<|aJ d)
  | exact aJ d
def set_dict(J:X.A.units+1<cLine):Ez X (λo i v H Q=>∃a H',o=.ref a/\ug H a i v H'/\Q H'):=by
 intro pins s σ H o i v t m u Q I d j k h;obtain⟨a,H',rfl,g,q⟩:=h
 cases d
 exact D9 J I g j k λz f=>⟨H',f,q⟩
abbrev Nb (tk tv:TE):TE:=λσ H Q=>∀p,H p=none->tk σ (upd H p<|.dT []) λx H1=>tv σ H1 λy H2=>H2 p=some (.dT [])/\∃b ks,x=.ref b/\H2 b=some (.tup<|ks.map kV)/\Q (.ref p) (upd H2 p<|.dT [(ks,y)])
def GF{k v:aF}{tk tv:TE}(Z:X.A.units+1<cLine)(U:PE X k tk)(hv:PE X v tv):PE X (.Dict [some k] [v] pos) (Nb tk tv):=by
 intro pins s σ H Q I q;have hn:=I.hok.fresh<|aP s.heap.objs.size;have I1:=I.laid (a:=s.heap.objs.size) (o:=.dT []) (h':=s.heap.push { cls:=.type "dict",data:=.dict #[]}) (t':=s.toks) (λ_ _ q=>aQ _ q) (aP _)<|Ig s.heap I.big;refine wpAny_Dict_any rfl rfl (by simp) (show 1<=15 by decide) ?_;refine pairTrees_cons_walk<|ju (U pins _ σ _ _ I1<|q _ hn) λM J ⟨x,H1,C,rx,K⟩=>ju (hv pins J σ H1 _ C K) λvv N ⟨y,H2,I3,ry,e,b,ks,ex,t,G⟩=>pairTrees_nil_walk ?_;subst ex
 cases rx
 obtain⟨z,hd,xs,f,dd⟩:=vI I3.hok e
 cases f
 unfold storeAll;rw[List.forIn_cons];refine aJ (aJ<|wpAny_dictSet_heap (hsz:=by simp) (show X.A.units<cLine by lia) (sU I3.hok t) dd λh' d hs=>aO ?_);dsimp only;rw[List.forIn_nil];refine aO ⟨.ref s.heap.objs.size,_,?_,rfl,G⟩;obtain⟨m,es,ep,g,h2,L,F,_,B⟩:=d;refine p7 I3 (by rw[e];exact True.intro) hs ⟨m,g⟩ ⟨by show 1<=sizeLine;decide,hd,_,(KT.put (kvs:=[]) .nil ks t ry).keeps λc ys j=>?_,m,es,ep,g,h2,L,F,B⟩;rw[iB<|AB j e λz=>nomatch z];exact j
abbrev OB:V->List V->Hp->VK->Prop:=λx d H Q=>∃a b ks kvs y,x=.ref a/\d=[.ref b,y]/\H a=some (.dT kvs)/\H b=some (.tup<|ks.map kV)/\Q ((mL kvs ks).getD y) H
def JL(J:X.A.units+1<cLine):RZ X "dict.get" OB:=by
 intro pins s σ H x B v us Q I rx d h;obtain⟨a,b,ks,kvs,y,rfl,rfl,j,m,q⟩:=h
 cases rx
 cases d with
 | @cons _ C _ I0 r1 d=>
  cases d with
  | @cons _ g _ BF r2 d=>
   cases d
   cases r1
   obtain⟨z,hd,xs,f,dd⟩:=vI I.hok j;refine call_meetsIn fU dd.typeIs PySem.F.entry_dict_get (PySem.F.args_dict_get_3 _ _ _) (meetsH_dict_get_default (tupleKind<|jB X.prog X.w) a b hd g) ⟨gB J,ks,xs,sU I.hok m,dd,?_⟩;refine⟨(mL kvs ks).getD y,H,I.tok _,?_,q⟩;have rl:=f.val ks
   cases e1:mL kvs ks with
   | none=>
    rw[e1]at rl
    cases e2:(atKey xs ks).map (·.2)with
    | none=>exact r2
    | some k=>rw[e2]at rl;exact rl.elim
   | some t=>
    rw[e1]at rl
    cases e2:(atKey xs ks).map (·.2)with
    | none=>rw[e2]at rl;exact rl.elim
    | some k=>rw[e2]at rl;exact rl
end
section
theorem kt_at{H:Hp}:∀{kvs:List<|List Key×V}{xs:List<|List Key×aq×aa},KT H kvs xs->kvs.length=xs.length/\∀(i:Nat) (p:List Key×V),kvs[i]?=some p->∃y:List Key×aq×aa,xs[i]?=some y/\p.1=y.1/\H y.2.1=some (.tup<|p.1.map kV)/\RelV p.2 y.2.2
 | [],[],_=>⟨rfl,λi p h=>by simp at h⟩
 | [],_::_,r=>nomatch r
 | _::_,[],r=>nomatch r
 | a::kvs,b::xs,.cons z r=>by
  obtain⟨l,q⟩:=kt_at r;refine⟨by simp[l],λi p h=>?_⟩
  cases i with
  | zero=>
   have:a=p:=by simpa using h
   subst this;exact⟨b,rfl,z⟩
  | succ i=>exact q i p<|by simpa using h
end
abbrev C0 (e:aq)(h:au):Prop:=∃o d,h.get? e=some o/\o.data=.fields d/\d[2]?=some .none/\o.dict=none
structure Fly (l:List Env)(g:au)(pn:bt)(H:Hp)(e:aq)(cls:aa)(h:au):Prop where
 ex:∃(B:au) (a0:aa),Heap.FlyingW B l e cls a0 h/\(∀a u,H a=some u->∃o,B.get? a=some o)/\(∀b o,g.get? b=some o->b∉frs l->∃o',B.get? b=some o')/\(∀p∈pn,∃o',B.get? p.1=some o')/\C0 e h
structure Made (X:Cx)(H:Hp)(e:aq)(cls:aa)(g:au)(h:au):Prop where
 ex:∃(g':au) (vs:ba),Heap.MadeExcOf g' h e cls vs/\g'.FunFrames X.base X.stack/\(∀a u,H a=some u->∃o,g'.get? a=some o)/\(∀b o,g.get? b=some o->∃o',g'.get? b=some o')/\(∀p∈X.pn,∃o',g'.get? p.1=some o')
abbrev MQ (X:Cx)(H:Hp)(e:aq)(cls:aa)(s':aE):Prop:=Made X H e cls X.s₀.heap s'.heap\/Fly X.stack X.s₀.heap X.pn H e cls s'.heap
section
abbrev EX (X:Cx):XK:=λcls _ H'=>X.ex=[]/\∀pins d s' e,Inv X pins d H' s'->MQ X H' e cls s'->X.xe (.ref e) s'
end
abbrev xu:HO:=.ext λ_=>True
structure XO (C:aq)(o:Obj):Prop where
 cls:o.cls=.ref C
 dict:o.dict=none
 ctx:∃vs,o.data=.fields vs/\vs[2]?=some .none
abbrev mroIn (K:aA)(C:aq):Option (ba):=match K.lookup C with
 | some ⟨.type "type",_,.cls cd,sl⟩=>(match cd.mro,sl.toList with
  | .ref C'::bm,[_,_,_,_,some<|.builtin _,_]=>if C'=C/\cd.hasDel=false then some bm else none
  | _,_=>none)
 | _=>none
open PySem.W in
structure XCls (K:aA)(C:aq):Prop where
 ga:findIn K (.ref C) "__getattribute__" = some (some<|.builtin "BaseException.__getattribute__")
 gt:findIn K (.ref C) "__getattr__" = some none
 fc:findObj K C none "__class__" = some (.bind (.builtin "getset_descriptor.__get__")<|.builtin "object.__class__")
 ob:PySem.W.mroIn K C (.type "object")=some true
 bs:subIn K (.ref C) (.type "BaseException")=some true
end L2
namespace L2
open PySem PySem.Spec PyProof.Rows PySem.SeqAt
def Hv:bootBuiltins "sum" = some (.builtin "sum"):=by decide +kernel
def Nk:bootBuiltins "zip" = some (.type "zip"):=by decide +kernel
section
variable {X:Cx}
def D_(hc:X.calm=true):jc X (.builtin "sum") (λxs H Q=>∃(p:aq) (ns:ag),xs=[.ref p]/\jR X.K H p (ns.map V.int)/\Q (.int ns.sum) H):=by
 kt_k;obtain⟨p,ns,rfl,j,q⟩:=h;kst_p
 cases rx
 obtain⟨t,z,g,B⟩:=I.list j;have hi:=intsAre_of z;have f:=g.isList;obtain⟨ys,e⟩:=hi.allInts.items;have d:ns=ys.toList.map (·.1):=by
  rw[<- hi.numsOf,<- nums_intItems,<- e]
 rw[e]at f;refine sum_intListG (I.ok.hd hc) f λh' C k m=>?_;refine⟨.int _,H,I.kept m,⟨k,rfl⟩,?_⟩;rw[preSum_eq,d9<|by simp,<- d];exact q
end
abbrev Rc (K:aA)(j J:aq):It:=
 ⟨λi H=>∃xs ys x y,jR K H j xs/\jR K H J ys/\xs[i]?=some x/\ys[i]?=some y,
  λi H v H'=>∃T,H T=none/\v=.ref T/\∀xs ys x y,jR K H j xs->jR K H J ys->xs[i]?=some x->ys[i]?=some y->H'=upd H T (.tup [x,y]),
  λi H=>∃xs ys,jR K H j xs/\jR K H J ys/\(xs[i]?=none\/ys[i]?=none)⟩
def HM{P:ah}{w:af}{K:aA}{TI TO:aq}(D:ZipApart z TI TO i1 i2 l1 l2) :
  Turn P w K (.Tuple elts x1 tpos) (Rc K l1 l2) [z,TI,TO,i1,i2] z (λi h=>IsZip h z TI TO .none/\IsPair h TI (.ref i1) (.ref i2)/\(∃a b,IsPair h TO a b)/\h.IsListIter i1 l1 i/\h.IsListIter i2 l2 i) where
 mem:=by simp
 obj:=λi h st b hb=>by
  obtain⟨Z,Y,⟨a,b',s3⟩,⟨o4,e4,c4,d4⟩,⟨o5,e5,c5,d5⟩⟩:=st;have C:b=z\/b=TI\/b=TO\/b=i1\/b=i2:=by simpa using hb
  rcases C with rfl|rfl|rfl|rfl|rfl
  ·exact⟨_,Z,λv z=>by cases z⟩
  ·exact⟨_,Y,λv z=>by cases z⟩
  ·exact⟨_,s3,λv z=>by cases z⟩
  ·exact⟨o4,e4,λv z=>by rw[d4]at z;cases z⟩
  ·exact⟨o5,e5,λv z=>by rw[d5]at z;cases z⟩
 keep:=λi h h' st k=>by
  obtain⟨Z,Y,⟨a,b',s3⟩,s4,s5⟩:=st;exact⟨k z (by simp) _ Z,k TI (by simp) _ Y,⟨a,b',k TO (by simp) _ s3⟩,s4.at λo F=>k i1 (by simp) o F,s5.at λo F=>k i2 (by simp) o F⟩
 item:=by
  room;subst hP hw hK;obtain⟨Z,Y,⟨a,b',s3⟩,s4,s5⟩:=st;obtain⟨xs,ys,x,y,W,U,hx,hy⟩:=hg;obtain⟨its1,rv1,p1,hz1⟩:=I.list W;obtain⟨its2,rv2,p2,hz2⟩:=I.list U;obtain⟨u1,hu1,ru1⟩:=rv1.get hx;obtain⟨u2,hu2,ru2⟩:=rv2.get hy;refine wpAny_pyNext_zip_item D Z Y s3 s4 s5 p1.isList p2.isList (x:=u1) (y:=u2) (by simpa using hu1) (by simpa using hu2) λh' hz' hTO' h1' h2' hT hsz hk=>?_;refine⟨_,rfl,wpAny_letOwnedTupleGo_zip hz' λh2 he2 O=>?_⟩;have fT:H s.heap.objs.size=none:=I.hok.fresh<|aP _;have lz:z<s.heap.objs.size:=aZ Z;have lTI:TI<s.heap.objs.size:=aZ Y;have lTO:TO<s.heap.objs.size:=aZ s3;have li1:i1<s.heap.objs.size:=by obtain⟨o,F,_⟩:=s4;exact aZ F
  have li2:i2<s.heap.objs.size:=by obtain⟨o,F,_⟩:=s5;exact aZ F
  have k2:∀b o,b≠z->b≠TO->b≠i1->b≠i2->s.heap.get? b=some o->h2.get? b=some o:=λb o G J L M q=>O.extBut b o G<|hk b o G J L M q;have hT2:IsPair h2 s.heap.objs.size u1 u2:=O.extBut _ _ (gW lz) hT;have fz:=hf z (by simp);have fTI:=hf TI (by simp);have d:=hf TO (by simp);have f:=hf i1 (by simp);have g:=hf i2 (by simp);have nT:∀b o,s.heap.get? b=some o->b≠s.heap.objs.size:=λb o q=>bB<|aZ q;have t:∀c v,H c=some v->c≠z/\c≠TO/\c≠i1/\c≠i2:=λc v q=>⟨(λw=>by rw[w,fz.1]at q;cases q),(λw=>by rw[w,d.1]at q;cases q),(λw=>by rw[w,f.1]at q;cases q),(λw=>by rw[w,g.1]at q;cases q)⟩;have B:∀b,b∉[z,TO,i1,i2]->b≠z/\b≠TO/\b≠i1/\b≠i2:=λb hb=>by simpa using hb
  have I2:Inv X pins σ (upd H s.heap.objs.size<|.tup [x,y]) { s with heap:=h2,toks:=s.toks }:=by
   refine I.step (g':=s.gens) (d':=s.drawn) (ch:=[z,TO,i1,i2]) (λb hb=>?_) (λb o _ _ j q _=>?_) (λb o _ _ j q _=>?_) (λb o j q n=>?_) (λb o j q=>?_) (λb ys q=>?_) (λb o u' q=>?_) (λb ps q=>?_) (λm hm=>?_) (λb u' q=>?_) I.bare
   ·have C:b=z\/b=TO\/b=i1\/b=i2:=by simpa using hb
    rcases C with rfl|rfl|rfl|rfl
    ·exact⟨fz.2.2.2.1,fz.2.1,fz.2.2.2.2.1,fz.2.2.2.2.2⟩
    ·exact⟨d.2.2.2.1,d.2.1,d.2.2.2.2.1,d.2.2.2.2.2⟩
    ·exact⟨f.2.2.2.1,f.2.1,f.2.2.2.2.1,f.2.2.2.2.2⟩
    ·exact⟨g.2.2.2.1,g.2.1,g.2.2.2.2.1,g.2.2.2.2.2⟩
   ·obtain⟨G,J,L,M⟩:=B b j;exact k2 b o G J L M q
   ·obtain⟨G,J,L,M⟩:=B b j;exact⟨o.slots,k2 b o G J L M q⟩
   ·rw[iB<|nT b o q];exact n
   ·obtain⟨G,J,L,M⟩:=B b j;exact⟨o,k2 b o G J L M q⟩
   ·rw[iB<|iM q fT];exact q
   ·rw[iB<|iM q fT];exact q
   ·exact⟨#[],by rw[iB<|iM q fT,q];simp⟩
   ·obtain⟨o,es,ep,F,r⟩:=hm;exact⟨o,es,ep,k2 _ o (b_ fz.2.1) (b_ d.2.1) (b_ f.2.1) (b_ g.2.1) F,r⟩
   ·by_cases hb:b=s.heap.objs.size
    ·subst hb;rw[iW]at q
     cases q
     exact⟨by show 2<=sizeLine;decide,[u1,u2],.cons ru1<|.cons ru2 .nil,⟨_,hT2,rfl,rfl,0,rfl⟩⟩
    ·rw[iB hb]at q;refine(I.hok b u' q).stay (λc v hc N=>?_) (λc N=>?_) λc ys N=>?_
     ·have V:c≠z/\c≠TO/\c≠i1/\c≠i2:=by
       rcases hc with w|w
       ·rw[w];exact t b u' q
       ·exact t c _ w
      exact k2 c v V.1 V.2.1 V.2.2.1 V.2.2.2 N
     ·rw[iB<|iM N fT];exact N
     ·rw[iB<|iM N fT];exact N
  refine⟨.ref s.heap.objs.size,_,I2,rfl,⟨s.heap.objs.size,fT,rfl,λxs' ys' x' y' hy1 hy2 e1 e2=>?_⟩,⟨he2,?_,⟨u1,u2,?_⟩,?_,?_⟩,λb hb=>?_⟩
  ·rw[I.rH hy1 W,hx]at e1;rw[I.rH hy2 U,hy]at e2
   cases e1;cases e2;rfl
  ·exact k2 TI _ D.TIz D.TITO D.TIi1 D.TIi2 Y
  ·exact O.extBut TO _ D.TOz hTO'
  ·exact h1'.at λo F=>O.extBut i1 o D.i1z F
  ·exact h2'.at λo F=>O.extBut i2 o D.i2z F
  ·have C:b=z\/b=TI\/b=TO\/b=i1\/b=i2:=by simpa using hb
   rcases C with rfl|rfl|rfl|rfl|rfl
   ·rw[iB<|bB lz];exact fz.1
   ·rw[iB<|bB lTI];exact fTI.1
   ·rw[iB<|bB lTO];exact d.1
   ·rw[iB<|bB li1];exact f.1
   ·rw[iB<|bB li2];exact g.1
 done:=by
  room;subst hP hw hK;obtain⟨Z,Y,⟨a,b',s3⟩,s4,s5⟩:=st;obtain⟨xs,ys,W,U,hend⟩:=hg;obtain⟨its1,rv1,p1,hz1⟩:=I.list W;obtain⟨its2,rv2,p2,hz2⟩:=I.list U;have hl1:=rv1.length;have hl2:=rv2.length;have fz:=hf z (by simp);have d:=hf TO (by simp);have f:=hf i1 (by simp);have g:=hf i2 (by simp);have hend':its1.toArray[i]?=none\/its2.toArray[i]?=none:=by
   rcases hend with q|q
   ·left;rw[di]at q;simp;lia
   ·right;rw[di]at q;simp;lia
  refine wpAny_pyNext_zip_end (I.ok.hd hc) D Z Y s3 s4 s5 p1.isList p2.isList hend' λh' hk=>⟨rfl,?_⟩;have B:∀b,b∉[z,TO,i1,i2]->b≠z/\b≠TO/\b≠i1/\b≠i2:=λb hb=>by simpa using hb
  have t:∀c v,H c=some v->c≠z/\c≠TO/\c≠i1/\c≠i2:=λc v q=>⟨(λw=>by rw[w,fz.1]at q;cases q),(λw=>by rw[w,d.1]at q;cases q),(λw=>by rw[w,f.1]at q;cases q),(λw=>by rw[w,g.1]at q;cases q)⟩;refine I.step (g':=s.gens) (d':=s.drawn) (t':=s.toks) (ch:=[z,TO,i1,i2]) (λb hb=>?_) (λb o _ _ j q _=>?_) (λb o _ _ j q _=>?_) (λb o j q n=>n) (λb o j q=>?_) (λb ys q=>q) (λb o u' q=>q) (λb ps q=>⟨#[],by rw[q];simp⟩) (λm hm=>?_) (λb u' q=>?_) I.bare
  ·have C:b=z\/b=TO\/b=i1\/b=i2:=by simpa using hb
   rcases C with rfl|rfl|rfl|rfl
   ·exact⟨fz.2.2.2.1,fz.2.1,fz.2.2.2.2.1,fz.2.2.2.2.2⟩
   ·exact⟨d.2.2.2.1,d.2.1,d.2.2.2.2.1,d.2.2.2.2.2⟩
   ·exact⟨f.2.2.2.1,f.2.1,f.2.2.2.2.1,f.2.2.2.2.2⟩
   ·exact⟨g.2.2.2.1,g.2.1,g.2.2.2.2.1,g.2.2.2.2.2⟩
  ·obtain⟨G,J,L,M⟩:=B b j;exact hk b o G J L M q
  ·obtain⟨G,J,L,M⟩:=B b j;exact⟨o.slots,hk b o G J L M q⟩
  ·obtain⟨G,J,L,M⟩:=B b j;exact⟨o,hk b o G J L M q⟩
  ·obtain⟨o,es,ep,F,r⟩:=hm;exact⟨o,es,ep,hk _ o (b_ fz.2.1) (b_ d.2.1) (b_ f.2.1) (b_ g.2.1) F,r⟩
  ·refine(I.hok b u' q).stay (λc v hc N=>?_) (λc N=>N) λc ys N=>N;have V:c≠z/\c≠TO/\c≠i1/\c≠i2:=by
    rcases hc with w|w
    ·rw[w];exact t b u' q
    ·exact t c _ w
   exact hk c v V.1 V.2.1 V.2.2.1 V.2.2.2 N
 self:=λ_ _ _ _ _ st h=>wpAny_pyIter_zip st.1 h
section
variable {X:Cx}
abbrev RO (K:aA)(ta:TA):TI:=λσ H R=>ta σ H λd H1=>∃a b xs ys,d=[.ref a,.ref b]/\jR K H1 a xs/\jR K H1 b ys/\R (Rc K a b) H1
def Mu{a b:aF}{ta:TA}{p:Pos}(hg:Gl X "zip")(hm:X.mg "zip" = none)(ha:PA X [a,b] ta)(hs:starEach [a,b] X.env=(false,eval a X.env)::starEach [b] X.env<|>ε)(hpl:((backTo pos<|starEach [b] X.env).any (·.1)=false)<|>ε):PI X (.Tuple elts x1 tpos) (.Call (.Name "zip" p) [a,b] [] pos) (RO X.K ta):=by
 intro pins s σ H R I h;refine Call_<|pF I hg hm Nk<|cG (ju (ha pos pins s σ H _ I h) λus d ⟨vs,H1,I1,r1,Z⟩=>?_) hs hpl;obtain⟨t1,t2,xs,ys,e,j,g,q⟩:=Z;subst e;obtain⟨u1,f,rfl,F,r2⟩:∃u f,us=u::f/\RelV (.ref t1) u/\Vals [.ref t2] f:=by
  cases r1 with|cons h t=>exact⟨_,_,rfl,h,t⟩
 obtain⟨u2,rfl,L⟩:=vals1 r2
 cases F
 cases L
 obtain⟨P,rv1,p1,hz1⟩:=I1.list j;obtain⟨O,rv2,p2,V⟩:=I1.list g;refine call_zip_2 p1.isList p2.isList λh' U C J M m hsz Y=>?_;have W:Inv X pins σ H1 { d with heap:=h' }:=I1.kept (t':=d.toks) Y;have N:t1<d.heap.objs.size:=by obtain⟨o,G,_⟩:=p1.isList;exact aZ G
 have z:t2<d.heap.objs.size:=by obtain⟨o,G,_⟩:=p2.isList;exact aZ G
 have fr:∀k,H1 (d.heap.objs.size+k)=none:=λk=>I1.hok.fresh<|Nat.le_add_right _ k;refine wpAny_pyIter_zip U ⟨_,[d.heap.objs.size+4,d.heap.objs.size+2,d.heap.objs.size+3,d.heap.objs.size,d.heap.objs.size+1],_,_,H1,rfl,W,HM<|zipApart_new N z,⟨U,C,⟨_,_,J⟩,M,m⟩,λb hb=>?_,q⟩;have B:∃k,b=d.heap.objs.size+k:=by
  dsimp[a_,List.not_mem_nil,or_false]at hb
  rcases hb with rfl|rfl|rfl|rfl|rfl
  ·exact⟨4,rfl⟩
  ·exact⟨2,rfl⟩
  ·exact⟨3,rfl⟩
  ·exact⟨0,rfl⟩
  ·exact⟨1,rfl⟩
 obtain⟨k,rfl⟩:=B;exact I1.uN (Nat.le_add_right _ k)<|fr k
end
end L2
namespace L2
open PySem PySem.Spec PyProof.Rows
abbrev M8 (K:aA)(a:aq):It:=
 ⟨λi H=>∃xs x,jR K H a xs/\xs[i]?=some x,λi H x H'=>∃T,H T=none/\x=.ref T/\∀xs y,jR K H a xs->xs[i]?=some y->H'=upd H T (.tup [.int i,y]),λi H=>∃xs,jR K H a xs/\xs.length=i⟩
def z7{P:ah}{w:af}{K:aA}(a e it:aq)(hei:e≠it):Turn P w K (.Tuple elts x1 tpos) (M8 K a) [e,it] e (λi h=>(∃old,IsEnum h e it i old)/\h.IsListIter it a i) where
 mem:=by simp
 obj:=λi h st b hb=>by
  obtain⟨⟨old,f⟩,g⟩:=st;have F:b=e\/b=it:=by simpa using hb
  rcases F with rfl|rfl
  ·exact⟨_,f,λv z=>by cases z⟩
  ·obtain⟨o,e,c,d⟩:=g;exact⟨o,e,λv z=>by rw[d]at z;cases z⟩
 keep:=λi h h' st k=>by
  obtain⟨⟨old,f⟩,g⟩:=st;exact⟨⟨old,k e (by simp) _ f⟩,g.at λo B=>k it (by simp) o B⟩
 item:=by
  room;subst hP hw hK;obtain⟨⟨old,f⟩,g⟩:=st;obtain⟨xs,x,Z,hx⟩:=hg;obtain⟨C,rv,p,hz⟩:=I.list Z;obtain⟨u,hu,ru⟩:=rv.get hx;have N:a≠it:=by
   obtain⟨o,B,G,_⟩:=p.isList;obtain⟨o2,L,J,_⟩:=g;intro z;rw[z,L]at B
   cases B
   rw[G]at J;exact absurd (Value.type.inj J) ⋯
  have hea:e≠a:=by
   obtain⟨o,B,G,_⟩:=p.isList;intro z;rw[<- z,f]at B
   cases B
   exact absurd (Value.type.inj G) ⋯
  have hlt:i<C.toArray.size:=by
   rw[aW];exact(aK.mp hu).1
  refine wpAny_pyNext_enum_itemD (Draws.list (A:=X.A.in1) (I.ok.hd hc) it a N C.toArray) f ⟨g,p.isList⟩ hlt hei (by simp[hei,hea]) λx' h' tk hP Y hst hT hsz hk=>?_;have ex:x'=u:=by
   have:C.toArray[i]?=some u:=by simpa using hu
   rw[this]at hP;exact(aV hP).symm
  subst ex;refine⟨_,rfl,wpAny_letOwnedTupleGo_enum Y λh2 he2 O=>?_⟩;have V:H s.heap.objs.size=none:=I.hok.fresh<|aP _;have W:e<s.heap.objs.size:=aZ f;have hil:it<s.heap.objs.size:=by obtain⟨o,B,_⟩:=g;exact aZ B
  have k2:∀b o,b≠e->b≠it->s.heap.get? b=some o->h2.get? b=some o:=λb o h1 h3 q=>O.extBut b o h1<|hk b o h1 h3 q;have hT2:h2.get? s.heap.objs.size=some { cls:=.type "tuple",data:=.seq #[.int i tk,x']}:=O.extBut _ _ (gW W) hT;obtain⟨e0,e1,e2,e3,e4,e5⟩:=hf e (by simp);obtain⟨i0,i1,i2,i3,i4,i5⟩:=hf it (by simp);have nT:∀b o,s.heap.get? b=some o->b≠s.heap.objs.size:=λb o q=>bB<|aZ q;have j:∀c v,H c=some v->c≠e/\c≠it:=λc v q=>⟨(λz=>by rw[z,e0]at q;cases q),(λz=>by rw[z,i0]at q;cases q)⟩;have I2:Inv X pins σ (upd H s.heap.objs.size<|.tup [.int i,x]) { s with heap:=h2,toks:=tk+1 }:=by
   refine I.step (g':=s.gens) (d':=s.drawn) (ch:=[e,it]) (λb hb=>?_) (λb o _ _ t q _=>?_) (λb o _ _ t q _=>?_) (λb o t q n=>?_) (λb o t q=>?_) (λb ys q=>?_) (λb o u' q=>?_) (λb ps q=>?_) (λm hm=>?_) (λb u' q=>?_) I.bare
   ·have F:b=e\/b=it:=by simpa using hb
    rcases F with rfl|rfl
    ·exact⟨e3,e1,e4,e5⟩
    ·exact⟨i3,i1,i4,i5⟩
   ·exact k2 b o (λz=>t<|by simp[z]) (λz=>t<|by simp[z]) q
   ·exact⟨o.slots,k2 b o (λz=>t<|by simp[z]) (λz=>t<|by simp[z]) q⟩
   ·rw[iB<|nT b o q];exact n
   ·exact⟨o,k2 b o (λz=>t<|by simp[z]) (λz=>t<|by simp[z]) q⟩
   ·rw[iB<|iM q V];exact q
   ·rw[iB<|iM q V];exact q
   ·exact⟨#[],by rw[iB<|iM q V,q];simp⟩
   ·obtain⟨o,es,ep,B,r⟩:=hm;exact⟨o,es,ep,k2 _ o (b_ e1) (b_ i1) B,r⟩
   ·by_cases z:b=s.heap.objs.size
    ·subst z;rw[iW]at q
     cases q
     exact⟨by show 2<=sizeLine;decide,[.int i tk,x'],.cons ⟨tk,rfl⟩<|.cons ru .nil,⟨_,hT2,rfl,rfl,0,rfl⟩⟩
    ·rw[iB z]at q;refine(I.hok b u' q).stay (λc v hc U=>k2 c v ?_ ?_ U) (λc U=>?_) λc ys U=>?_
     ·rcases hc with z|z
      ·rw[z];exact(j b u' q).1
      ·exact(j c _ z).1
     ·rcases hc with z|z
      ·rw[z];exact(j b u' q).2
      ·exact(j c _ z).2
     ·rw[iB<|iM U V];exact U
     ·rw[iB<|iM U V];exact U
  refine⟨.ref s.heap.objs.size,_,I2,rfl,⟨s.heap.objs.size,V,rfl,λys y hy M=>?_⟩,⟨⟨x',by simpa using he2⟩,?_⟩,λb hb=>?_⟩
  ·rw[I.rH hy Z]at M;rw[hx]at M
   cases M
   rfl
  ·exact hst.1.at λo B=>O.extBut it o (b_ hei) B
  ·have F:b=e\/b=it:=by simpa using hb
   rcases F with rfl|rfl
   ·rw[iB<|bB W];exact e0
   ·rw[iB<|bB hil];exact i0
 done:=by
  room;subst hP hw hK;obtain⟨⟨old,f⟩,g⟩:=st;obtain⟨xs,Z,hx⟩:=hg;obtain⟨C,rv,p,hz⟩:=I.list Z;obtain⟨i0,i1,i2,i3,i4,i5⟩:=hf it (by simp);have N:a≠it:=by
   obtain⟨o,B,G,_⟩:=p.isList;obtain⟨o2,L,J,_⟩:=g;intro z;rw[z,L]at B
   cases B
   rw[G]at J;exact absurd (Value.type.inj J) ⋯
  have hl:=rv.length;have ei:C.toArray.size=i:=by rw[aW,<- hl,hx]
  exact wpAny_pyNext_enum_endD (Draws.list (A:=X.A.in1) (I.ok.hd hc) it a N C.toArray) f ⟨by rw[ei];exact g,p.isList⟩ λh' eb=>⟨rfl,I.turned (t':=s.toks) (λb o hb q=>eb b o hb q) i0 i1 i3 i4 i5⟩
 self:=λ_ _ _ _ _ st h=>let⟨⟨_,f⟩,_⟩:=st;wpAny_pyIter_enum f h
section
variable {X:Cx}
abbrev NR (K:aA)(ta:TA):TI:=λσ H R=>ta σ H λd H1=>∃a xs,d=[.ref a]/\jR K H1 a xs/\R (M8 K a) H1
def Fq{a:aF}{ta:TA}{p:Pos}(hg:Gl X "enumerate")(hm:X.mg "enumerate" = none)(M:PA X [a] ta)(hs:starEach [a] X.env=[(false,eval a X.env)]<|>ε):PI X (.Tuple elts x1 tpos) (.Call (.Name "enumerate" p) [a] [] pos) (NR X.K ta):=by
 intro pins s σ H R I h;refine Call_<|pF I hg hm wX<|cG (ju (M pos pins s σ H _ I h) λus d ⟨G,H1,I1,r1,C⟩=>?_) hs rfl;obtain⟨t,xs,e,m,q⟩:=C;subst e;obtain⟨u,rfl,rx⟩:=vals1 r1
 cases rx
 obtain⟨B,L,pt,J⟩:=I1.list m;refine call_enumerate_list pt.isList λh' k g F z=>?_;have I3:Inv X pins σ H1 { d with heap:=h' }:=I1.kept (t':=d.toks) z;have f:d.heap.objs.size+1≠d.heap.objs.size:=()
 refine wpAny_pyIter_enum k ⟨_,[_,d.heap.objs.size],_,_,H1,rfl,I3,z7 t _ d.heap.objs.size f,⟨⟨.none,k⟩,g⟩,λb hb=>?_,q⟩;have j:b=d.heap.objs.size+1\/b=d.heap.objs.size:=by simpa using hb
 rcases j with rfl|rfl
 ·exact I1.uN (le_succ _) (I1.hok.fresh<|le_succ _)
 ·cb_eq
end
def Im{X:Cx}{i:Nat}{U:Pos}{iter:aF}{N:ar}{wi:TI}{g:TG}{tc:TT}{te:TE}
  (hN:X.N.Nodup) (Z:X.N[i]?=some y) (hx:Loc X.env.scope y) (hc:X.calm=true) (S:CpScope X scope N cap) (hi:PI X tg iter wi)
  (hg:∀C s₀ H₀ ex,PG (iU X scope N C s₀ H₀ ex) tg g) (ht:∀C s₀ H₀ ex,zU (iU X scope N C s₀ H₀ ex) ifs tc) (he:∀C s₀ H₀ ex,PE (iU X scope N C s₀ H₀ ex) elt te)
  (hsw:swapsWith (.ListComp elt [⟨tg,iter,ifs,0⟩] scope pos) (some<|.Name y py) U.line X.env=pure true)
  (hf:X.fn y=true\/X.env.scope.names.lookup y=some .local) (hs:(∀x,foldedSetIterable iter X.env x=pure x)<|>ζ) :
  PS X (.Assign [.Name y py] (.ListComp elt [⟨tg,iter,ifs,0⟩] scope pos) U) (ER (Qq cap wi g tc te)<|BE i):=by
 ksr_p;rw[exec_Assign_Name_used _ _ _ _ hsw];refine aJ (bX<|aJ ?_)
 skip
 refine aJ<|c9 (AR (ok:=λY=>Y.calm=true) (Q':=λ_ s'=>SP X pins D .next s') S (λ_ _ _ _ _=>hc) (PI.g hi) hg ht he hs pins s σ H _ I h ?_) (λ_ s' K=>aO<|aO K) λ_ _ e=>e;intro B C F H5 m hn j inv q v;have O:=inv B.heap<|Heap.SameBut.refl _ _;obtain⟨J,f⟩:∃o,B.heap.get? C=some o/\∀v,o.data≠.cell v:=by
  obtain⟨o,es,ep,e,d,_⟩:=hn;exact⟨o,e,λv z=>by rw[d]at z;cases z⟩
 have M:=O.pinned (fp:=[C]) (λb hb=>by rw[br]at hb;rw[hb];exact j) (λb hb=>by rw[br]at hb;rw[hb];exact⟨J,f⟩)
 skip
 refine ju (xJ hN Z hx hf _ B σ H5 (.ref F) (.ref F) _ M rfl q) λ_ s7 h9=>?_;obtain⟨t,H7,I7,L⟩:=h9;have hp:=I7.pin (C,J)<|aT _<|aT _<|jd (br.mpr rfl) f.1;refine⟨m,hn.at' λo e=>by rw[f.1]at e;cases e;exact hp.1,λh' k=>?_⟩;have G:∀c v,H7 c=some v->c≠C:=λc v e z=>by rw[z,hp.2.1]at e;cases e
 refine⟨t,H7,?_,L⟩;refine I7.kg.yO (ch:=[C]) rfl ⟨λb o e n hb hx=>?_,λb o e n hb hx=>?_,λb o e n hx=>n,λb o e hx=>?_,λ_ _ e=>e,λ_ _ _ e=>e,λ_ _ e=>⟨#[],by rw[Array.append_empty];exact e⟩⟩ ?_ I7.bare ?_
 ·exact k.extBut b o (by simpa using hx) e
 ·exact⟨o.slots,k.extBut b o (by simpa using hx) e⟩
 ·exact⟨o,k.extBut b o (by simpa using hx) e⟩
 ·intro b o e;refine(I7.hok b o e).stay (λc v hc q=>k.extBut c v ?_ q) (λ_ q=>q) λ_ _ q=>q
  rcases hc with z|z
  ·rw[z];exact G b o e
  ·exact G c _ z
 ·intro b hb;rw[br]at hb;rw[hb];exact⟨j.2.2.2.1,j.2.1,j.2.2.2.2.1,j.2.2.2.2.2⟩
abbrev QH (lo:Int)(n:Nat):It:=⟨λi _=>i<n,λi H x H'=>H'=H/\x=.int (lo-i),λi _=>n<=i⟩
def Du{P:ah}{w:af}{K:aA}(it:aq)(lo:Int)(n:Nat):Turn P w K tg (QH lo n) [it] it (λi h=>IsRangeIter h it (lo+(i:Nat) * (-1)) ((n:Int)-(i:Nat))<|-1) where
 mem:=by simp
 obj:=λi h st b hb=>by
  have e:b=it:=by simpa using hb
  subst e;exact⟨_,st,λv z=>by
   have g:Data.fields _=Data.cell v:=z
   cases g⟩
 keep:=λi h h' st k=>k it (by simp) _ st
 item:=by
  room;subst hP hw hK;fin2;have W:=Walks.range (prog:=X.prog) (w:=X.w) (I.ok.hd hc) it lo (-1) n;refine W.item i s _ _ hg st λv h' f hv d j=>?_;obtain⟨t,rfl⟩:=hv;have I1:Inv X pins σ H { s with heap:=h',toks:=f }:=I.turned (λb o hb e=>j b o (by simpa using hb) e) f0 f1 f3 f4 f5;refine⟨_,rfl,wo (s:={ s with heap:=h',toks:=f }) (n := "range_iterator") d rfl rfl ⋯ ⟨.int<|lo-i,H,I1,⟨t,?_⟩,⟨rfl,rfl⟩,d,λb hb=>(hf b hb).1⟩⟩;rw[show lo+(i:Int) * (-1)=lo-i by lia]
 done:=by
  room;subst hP hw hK;fin2;exact wpAny_pyNext_range_end (I.ok.hd hc) st (by have:n<=i:=hg;lia) λh' m=>⟨rfl,I.turned (t':=s.toks) (λb o hb e=>m b o hb e) f0 f1 f3 f4 f5⟩
 self:=λ_ _ _ _ _ st h=>wpAny_pyIter_rangeiter st h
def v9(a b:Int):Builtin.Range.rangeSize a b (-1)=if a>b then a-b else 0:=by
 unfold Builtin.Range.rangeSize;dsimp[show ¬((-1:Int)>0)by decide,cY,Int.neg_neg,ediv_one];split<;>lia
def small_down{a b:Int}(L:-(2 ^ 62)<=a)(j:a<2 ^ 62)(hb:-(2 ^ 62)<=b)(J:b<2 ^ 62):Builtin.Range.small a b (-1)=true:=by
 unfold Builtin.Range.small;rw[v9];dsimp[Builtin.Range.rangeFitsLong,c7,g_,fK,gY,show ¬((-1:Int)>0)by decide,cY];split<;>lia
section
variable {X:Cx}{tg:aF}
def J4{H:Hp}{s:aE}{R:It->Hp->Prop}{E:aa->aE->Prop}{lo hi:Int}{t v:Tok}{tk:Nat}(I:Inv X pins σ H s)(h1:-(2 ^ 62)<=lo)(h2:lo<2 ^ 62)(j:-(2 ^ 62)<=hi)(J:hi<2 ^ 62)
  (q:R (QH lo (lo-hi).toNat) H):wpAny (model X.prog X.w) X.A (pyIter<|.ref s.heap.objs.size) (Rr X pins σ tg R) E { s with heap:=s.heap.push { cls:=.type "range",data:=.fields #[.int lo t,.int hi u,.int (-1) v]},toks:=tk }:=by
 refine wpAny_pyIter_range (IsRange.new ..) (small_down h1 h2 j J) ?_;have I1:Inv X pins σ H { s with heap:=s.heap.push { cls:=.type "range",data:=.fields #[.int lo t,.int hi u,.int (-1) v]},toks:=tk }:=I.kept λb o e=>aQ _ e;refine⟨(s.heap.push { cls:=.type "range",data:=.fields #[.int lo t,.int hi u,.int (-1) v]}).objs.size,[(s.heap.push { cls:=.type "range",data:=.fields #[.int lo t,.int hi u,.int (-1) v]}).objs.size],_,_,H,rfl,
  I1.kept (t':=tk) λb o e=>aQ _ e,Du _ lo (lo-hi).toNat,?_,λb hb=>?_,q⟩
 ·have e1:lo+((0:Nat):Int) * (-1)=lo:=by simp
  have e2:(((lo-hi).toNat:Nat):Int)-((0:Nat):Int)=Builtin.Range.rangeSize lo hi (-1):=by rw[v9];split<;>lia
  skip
  rw[e1,e2];exact bI _ rfl
 ·have e:b=(s.heap.push { cls:=.type "range",data:=.fields #[.int lo t,.int hi u,.int (-1) v]}).objs.size:=by simpa using hb
  subst e;cb_eq
abbrev P1 (ta:TA):TI:=λσ H R=>ta σ H λd H1=>∃i j:Int,d=[.int i,.int j,.int<|-1]/\(-(2 ^ 62)<=i/\i<2 ^ 62/\-(2 ^ 62)<=j/\j<2 ^ 62)/\R (QH i (i-j).toNat) H1
def Jh{a:aF}{ta:TA}{p:Pos}(hg:Gl X "range")(hm:X.mg "range" = none)(M:PA X [a,b,c] ta)(hs:starEach [a,b,c] X.env=[(false,eval a X.env),(false,eval b X.env),(false,eval c X.env)]<|>ε)(L:starEach [b,c] X.env=[(false,eval b X.env),(false,eval c X.env)]<|>ε) :
  PI X tg (.Call (.Name "range" p) [a,b,c] [] pos) (P1 ta):=by
 intro pins s σ H R I h;refine Call_ (pF I hg hm boot_range<|cG (ju (M pos pins s σ H _ I h) λus G ⟨F,H1,I1,r1,g⟩=>?_) (by rw[hs,L])<|by rw[L];rfl);obtain⟨i,j,e,⟨g,k,z,C⟩,q⟩:=g;subst e
 cases r1 with
 | cons r d=>
  cases d with
  | cons B d=>
   cases d with
   | cons f d=>
    cases d
    obtain⟨t,rfl⟩:=r;obtain⟨J,rfl⟩:=B;obtain⟨m,rfl⟩:=f;exact call_range_3 ⋯ (J4 I1 g k z C q)
end
end L2
namespace Sx
open PySem PyProof.Rows
structure Ord where
 lt:Nat->Nat->Bool
 irr:∀i,lt i i=false
 tr:∀i j k,lt i j=true->lt j k=true->lt i k=true
 neg:∀i j k,lt i k=true->lt i j=true\/lt j k=true
abbrev P (o:Ord)(i j:Nat):Prop:=o.lt i j=true\/(o.lt j i=false/\i<j)
abbrev So (o:Ord)(g:Nat->Nat)(a b:Nat):Prop:=∀i j,a<=i->i<j->j<b->P o (g i) (g j)
abbrev Cl (g:Nat->Nat)(a b:Nat):Prop:=∀i,a<=i->i<b->a<=g i/\g i<b
section
variable {o:Ord}{N:Nat}{f:Nat->Keyed}{kd:SortKind}{g:Nat->Nat}{p:Array (Nat×Nat×Nat)}{st:SortSt}
end
section
variable {o:Ord}{g g0:Nat->Nat}
end
abbrev B9:Bool->Keyed->Array Keyed->Nat->Nat->Nat->StateT SortSt Sem (bo):=sortPriv% PySem.Builtin.gallop
abbrev Ql:Nat->StateT SortSt Sem Unit:=sortPriv% PySem.Builtin.setMinGallop
section
variable {o:Ord}{N:Nat}{f:Nat->Keyed}{A B hs:am}{ia ib:Nat}
abbrev fa (f:Nat->Keyed)(l:am):Array Keyed:=(l.map f).toArray
abbrev Res (o:Ord)(f:Nat->Keyed)(A B:am)(out:Array Keyed):Prop:=∃hs:am,out=fa f hs/\hs.length=A.length+B.length/\hs.Pairwise (P o)/\∀x∈hs,x∈A\/x∈B
end
structure Sm (st st':SortSt):Prop where
 a:arrOf st'=arrOf st
 k:kindOf st'=kindOf st
 p:pendingOf st'=pendingOf st
 f:failedOf st'=failedOf st
meta abbrev G:=Option (Array Keyed)×Array Keyed×Nat×Nat×Nat×Nat×Nat
abbrev T3 (a b out:Array Keyed)(ia ib mg j J:Nat):StateT SortSt Sem (ForInStep G):=do
 let x <- elem' a ia
 if (ia+1+1 == a.size)=true then pure (ForInStep.done (some<|out.push x++b.extract ib b.size++a.extract (ia+1) a.size,out.push x,ia+1,ib,mg,j,J))
 else if (decide (j<7) && decide (J<7))=true then pure (ForInStep.done (none,out.push x,ia+1,ib,mg,j,J))
 else pure (ForInStep.yield (none,out.push x,ia+1,ib,mg,j,J))
abbrev T2 (a b out:Array Keyed)(ia ib mg j J:Nat):StateT SortSt Sem (ForInStep G):=do
 let x <- elem' b ib
 if (ib+1 == b.size)=true then pure (ForInStep.done (some<|out.push x++a.extract ia a.size++b.extract (ib+1) b.size,out.push x,ia,ib+1,mg,j,J))
 else
  let y <- elem' a ia
  let r <- B9 true y b (ib+1) (b.size-(ib+1)) 0
  match r with
  | some k=>
   if k>0 then
    if (ib+1+k == b.size)=true then pure (ForInStep.done (some<|out.push x++b.extract (ib+1) (ib+1+k)++a.extract ia a.size++b.extract (ib+1+k) b.size,out.push x++b.extract (ib+1) (ib+1+k),ia,ib+1+k,mg,j,k))
    else T3 a b (out.push x++b.extract (ib+1) (ib+1+k)) ia (ib+1+k) mg j k
   else T3 a b (out.push x) ia (ib+1) mg j k
  | _=>pure<|ForInStep.done (some<|out.push x++a.extract ia a.size++b.extract (ib+1) b.size,out.push x,ia,ib+1,mg,j,J)
abbrev T1 (a b out:Array Keyed)(ia ib mg J j:Nat):StateT SortSt Sem (ForInStep G):=do
 Ql mg
 let x <- elem' b ib
 let r <- B9 false x a ia (a.size-ia) 0
 match r with
 | some k=>
  if k>0 then
   if (ia+k+1 == a.size)=true then pure (ForInStep.done (some<|out++a.extract ia (ia+k)++b.extract ib b.size++a.extract (ia+k) a.size,out++a.extract ia (ia+k),ia+k,ib,mg,k,j))
   else if (ia+k == a.size)=true then pure (ForInStep.done (some<|out++a.extract ia (ia+k)++a.extract (ia+k) a.size++b.extract ib b.size,out++a.extract ia (ia+k),ia+k,ib,mg,k,j))
   else T2 a b (out++a.extract ia (ia+k)) (ia+k) ib mg k j
  else T2 a b out ia ib mg k j
 | _=>pure<|ForInStep.done (some<|out++a.extract ia a.size++b.extract ib b.size,out,ia,ib,mg,J,j)
section
variable {o:Ord}{A B ts:am}{na nb:Nat}
structure Mh (o:Ord)(A B ts:am)(na nb:Nat):Prop where
 la:na<=A.length
 lb:nb<=B.length
 len:ts.length+na+nb=A.length+B.length
 so:ts.Pairwise (P o)
 mem:∀x∈ts,x∈A\/x∈B
 ua:∀y∈A.take na,∀x∈ts,P o y x
 ub:∀y∈B.take nb,∀x∈ts,P o y x
end
meta abbrev H:=Option (Array Keyed)×Nat×Nat×Array Keyed×Nat×Nat×Nat
section
variable {o:Ord}{f:Nat->Keyed}{st0:SortSt}{X Y ts:am}{na nb:Nat}
abbrev Oh (o:Ord)(X Y:am)(n:Nat)(ts:am)(na nb:Nat):Prop:=Mh o X Y ts na nb/\1<=na/\2<=nb/\na+nb+n<=X.length+Y.length
abbrev H2 (o:Ord)(f:Nat->Keyed)(X Y:am)(n:Nat)(st0:SortSt):ForInStep H->SortSt->Prop:=λr j=>Sm st0 j/\match r with
 | .done c=>(∃r z,c=(some r,z)/\Res o f X Y r)\/∃ts na nb mg d g,c=(none,na,nb,fa f ts.reverse,mg,d,g)/\Oh o X Y n ts na nb
 | .yield c=>∃ts na nb mg d g,c=(none,na,nb,fa f ts.reverse,mg,d,g)/\Oh o X Y n ts na nb
end
meta abbrev pr (x:Nat×Nat×Nat):Nat×Nat:=(x.1,x.2.1)
abbrev OL (o:Ord)(g:Nat->Nat):List (Nat×Nat)->Nat->Nat->Prop
 | [],a,b=>a=b
 | x::l,a,b=>x.1=a/\1<=x.2/\Cl g a (a+x.2)/\So o g a (a+x.2)/\OL o g l (a+x.2) b
abbrev PA (o:Ord)(g:Nat->Nat)(p:Array<|Nat×Nat×Nat)(b:Nat):Prop:=OL o g (p.toList.map pr) 0 b
meta abbrev vv (vs:ba)(i:Nat):Keyed:=(vs.getD i .none,vs.getD i .none)
end Sx
namespace Am
open PySem
inductive A where
 | unb|non|bl (b:Bool)|int (i:Int)|str (x:Str)|tup (xs:List A)|frz (xs:List A)|rng (lo hi:Int)|ref (n:Nat)|exn (c:Str)|ty (n:String)|ktu (xs:List A)
@[reducible]def ae:=List A
inductive O where
 | lst (xs:ae)|dct (kvs:List<|ag×A)|mY (kvs:List<|Int×A)|dks (kvs:List<|Str×A)|dcp (kvs:List<|L2.Ej×A)|dcf (kvs:List<|ag×A)|dkf (kvs:List<|Int×A)|ins (c:Str) (fs:List<|Str×A)
meta abbrev iC:=List O
inductive R (α:Type) where
 | ok (a:α) (S:iC)|ex (c:Str) (S:iC)|no
abbrev R.bind {α β:Type}(r:R α)(f:α->iC->R β):R β:=match r with
 | .ok a S=>f a S
 | .ex c S=>.ex c S
 | .no=>.no
abbrev R.post {α:Type}(r:R α)(P:α->iC->Prop)(E:Str->iC->Prop):Prop:=match r with
 | .ok a S=>P a S
 | .ex c S=>E c S
 | .no=>False
def iD{α β:Type}{r:R α}{f:α->iC->R β}{P:β->iC->Prop}{E:Str->iC->Prop}(h:(r.bind f).post P E):r.post (λa S=>(f a S).post P E) E:=by
 cases r<;>exact h
def DO{α:Type}{r:R α}{P j:α->iC->Prop}{E J:Str->iC->Prop}(h:r.post P E)(hp:∀a S,P a S->j a S)(L:∀c S,E c S->J c S):r.post j J:=by
 cases r with
 | ok a S=>exact hp _ _ h
 | ex c S=>exact L _ _ h
 | no=>exact h.elim
abbrev gd {α:Type}(c:Prop)[Decidable c](r:R α):R α:=if c then r else .no
abbrev opt {α β:Type}(o:Option β)(f:β->R α):R α:=match o with
 | some b=>f b
 | none=>.no
def iY{α:Type}{c:Prop}[Decidable c]{r:R α}{P:α->iC->Prop}{E:Str->iC->Prop}(h:(gd c r).post P E):c/\r.post P E:=by
 unfold gd at h;by_cases hc:c
 ·rw[aR hc]at h;exact⟨hc,h⟩
 ·rw[aU hc]at h;exact h.elim
def iF{α β:Type}{o:Option β}{f:β->R α}{P:α->iC->Prop}{E:Str->iC->Prop}(h:(opt o f).post P E):∃b,o=some b/\(f b).post P E:=by
 cases o with
 | none=>exact h.elim
 | some b=>exact⟨b,rfl,h⟩
abbrev iw (S:iC)(n:Nat):Option (ae):=match S[n]? with
 | some (.lst xs)=>some xs
 | _=>none
def iK{n:Nat}(h:iw S n=some xs):S[n]?=some (.lst xs):=by
 unfold iw at h;split at h
 ·rename_i e;cases h;exact e
 ·cases h
def rj{S:iC}{n:Nat}(h:S[n]?=some (.lst xs)):iw S n=some xs:=by
 unfold iw;rw[h]
inductive RS where
 | nx (τ:ae) (S:iC)|rt (a:A) (S:iC)|bk (τ:ae) (S:iC)|ct (τ:ae) (S:iC)|ex (c:Str) (S:iC)|no
meta abbrev Ex:=ae->iC->R A
meta abbrev n6:=ae->iC->R (ae)
meta abbrev Te:=ae->iC->R Bool
meta abbrev Sm:=ae->iC->RS
meta abbrev Tg:=A->ae->iC->R (ae)
end Am
namespace Am
open PySem L2
section
variable (K:aA) (ρ:bd) (H:Hp)
abbrev SN (K:aA)(c:Str)(C:aq):Prop:=PySem.W.nsIn K mainGlobals c=some (some<|.ref C)
abbrev Fz (K:aA)(H:Hp)(a:aq)(vs:List V):Prop:=
 (∃o,H a=some (.frz o<|.lst vs))\/∃(o:Obj) (d:Array aa) (n:Nat),K.lookup a=some o/\o.cls=.type "list" /\ o.dict=none/\o.data=.seq d n/\d.size<=sizeLine/\Vals vs d.toList
abbrev Ti (K:aA)(a:aq)(vs:List V):Prop:=∃(o:Obj) (d:Array aa) (n:Nat),K.lookup a=some o/\o.cls=.type "tuple" /\ o.dict=none/\o.data=.seq d n/\d.size<=sizeLine/\Vals vs d.toList
mutual
inductive AV:A->V->Prop
 | non:AV .non .non
 | bl (b:Bool):AV (.bl b) (.bl b)
 | int (i:Int):AV (.int i) (.int i)
 | str (x:Str):AV (.str x) (.str x)
 | ty (n:String):AV (.ty n) (.ty n)
 | tup {a:aq} {xs:ae} {vs:List V} (h:H a=some (.tup vs)) (r:AVs xs vs):AV (.tup xs) (.ref a)
 | frz {a:aq} {xs:ae} {vs:List V} (h:Fz K H a vs) (r:AVs xs vs):AV (.frz xs) (.ref a)
 | rng {a:aq} {lo hi:Int} (h:H a=some (.rng lo hi)):AV (.rng lo hi) (.ref a)
 | ref {a:aq} {n:Nat} (h:ρ[n]?=some a):AV (.ref n) (.ref a)
 | exn {a C:aq} {c:Str} {oe:Obj} (n:SN K c C) (h:H a=some (.frz oe xu)) (x:XO C oe):AV (.exn c) (.ref a)
 | ktu {a:aq} {xs:ae} {vs:List V} (h:Ti K a vs) (r:AVs xs vs):AV (.ktu xs)<|.ref a
inductive AVs:ae->List V->Prop
 | nil:AVs [] []
 | cons {x:A} {v:V} {xs:ae} {vs:List V} (h:AV x v) (t:AVs xs vs):AVs (x::xs) (v::vs)
end
abbrev DV:List (ag×A)->List (List Key×V)->Prop
 | [],[]=>True
 | p::r,q::r'=>(q.1=p.1.map Sum.inl/\AV K ρ H p.2 q.2)/\DV r r'
 | _,_=>False
abbrev DI:List (Int×A)->List (Key×V)->Prop
 | [],[]=>True
 | p::r,q::r'=>(q.1=Sum.inl p.1/\AV K ρ H p.2 q.2)/\DI r r'
 | _,_=>False
abbrev DS:List (Str×A)->List (Key×V)->Prop
 | [],[]=>True
 | p::r,q::r'=>(q.1=Sum.inr p.1/\AV K ρ H p.2 q.2)/\DS r r'
 | _,_=>False
abbrev DP:List (L2.Ej×A)->List (L2.Ej×aq×aa)->Prop
 | [],[]=>True
 | p::r,q::r'=>(q.1=p.1/\L2.zz H q.2.1 q.1/\∃v,RelV v q.2.2/\AV K ρ H p.2 v)/\DP r r'
 | _,_=>False
abbrev OR (a:aq):O->Prop
 | .lst xs=>∃d,H a=some (.lst d)/\AVs K ρ H xs d
 | .dct kvs=>∃ks,H a=some (.dT ks)/\DV K ρ H kvs ks
 | .mY kvs=>∃ks,H a=some (.dK ks)/\DI K ρ H kvs ks
 | .dks kvs=>∃ks,H a=some (.dK ks)/\DS K ρ H kvs ks
 | .dcp kvs=>∃xs,H a=some (.ext<|L2.Q8 a xs)/\DP K ρ H kvs xs
 | .dcf kvs=>∃o ks,H a=some (.frz o<|.dT ks)/\DV K ρ H kvs ks
 | .dkf kvs=>∃o ks,H a=some (.frz o<|.dK ks)/\DI K ρ H kvs ks
 | .ins _ _=>∃o u,H a=some (.frz o u)
structure Rel (S:iC):Prop where
 len:ρ.length=S.length
 nd:ρ.Nodup
 «at»:∀(n:Nat) (a:aq) (o:O),ρ[n]?=some a->S[n]?=some o->OR K ρ H a o
end
abbrev Tp:HO->Prop
 | .tup _=>True
 | .rng _ _=>True
 | .frz _ _=>True
 | _=>False
structure Ext0 (ρ ρ':bd)(H H':Hp):Prop where
 pre:ρ <+: ρ'
 im:∀a u,Tp u->H a=some u->H' a=some u
structure Ext (ρ ρ':bd)(H H':Hp):Prop extends Ext0 ρ ρ' H H' where
 fr:∀a u,H a=some u->a∉ρ->H' a=some u
 nw:∀a,a∈ρ'->a∈ρ\/H a=none
def Ext.refl{H:Hp}:Ext ρ ρ H H:=⟨⟨cI _,λ_ _ _ h=>h⟩,λ_ _ h _=>h,λ_ h=>.inl h⟩
def Ext.trans{H H1 H2:Hp}(a:Ext ρ ρ1 H H1)(b:Ext ρ1 ρ2 H1 H2):Ext ρ ρ2 H H2:=⟨⟨a.pre.trans b.pre,λx u i h=>b.im x u i<|a.im x u i h⟩,λx u h n=>b.fr x u (a.fr x u h n) λz=>(a.nw x z).elim n λz=>by(rw[z]at h;cases h),λx h=>by
 by_cases hx:x∈ρ
 ·exact .inl hx
 ·right
  cases q:H x with
  | none=>rfl
  | some u=>
   rcases b.nw x h with z|z
   ·exact((a.nw x z).elim hx λz=>by(rw[z]at q;cases q)).elim
   ·rw[a.fr x u q hx]at z;cases z⟩
def Ext0.get{H H':Hp}(e:Ext0 ρ ρ' H H'){n:Nat}{a:aq}(h:ρ[n]?=some a):ρ'[n]?=some a:=by
 obtain⟨t,rfl⟩:=e.pre;rw[aS (aK.mp h).1];exact h
section
variable {K:aA}{ρ ρ':bd}{H H':Hp}
def Ext0.Sn(e:Ext0 ρ ρ' H H'){a:aq}(h:lW K H a vs):lW K H' a vs:=by
 rcases h with(h|⟨o,h⟩)|h
 ·exact .inl (.inl<|e.im _ _ trivial h)
 ·exact .inl (.inr ⟨o,e.im _ _ trivial h⟩)
 ·exact .inr h
def Ext0.fz(e:Ext0 ρ ρ' H H'){a:aq}(h:Fz K H a vs):Fz K H' a vs:=by
 rcases h with⟨o,h⟩|h
 ·exact .inl ⟨o,e.im _ _ trivial h⟩
 ·exact .inr h
def Fz.J0{a:aq}(h:Fz K H a vs):jR K H a vs:=by
 rcases h with⟨o,h⟩|h
 ·exact .inl (.inr ⟨o,h⟩)
 ·exact .inr h
mutual
theorem AV.jv(e:Ext0 ρ ρ' H H'):∀{x:A}{v:V},AV K ρ H x v->AV K ρ' H' x v
 | _,_,.non=>.non
 | _,_,.bl b=>.bl b
 | _,_,.int i=>.int i
 | _,_,.str x=>.str x
 | _,_,.ty x=>.ty x
 | _,_,.tup h r=>.tup (e.im _ _ trivial h) (AVs.jv e r)
 | _,_,.frz h r=>.frz (e.fz h) (AVs.jv e r)
 | _,_,.rng h=>.rng (e.im _ _ trivial h)
 | _,_,.ref h=>.ref (e.get h)
 | _,_,.exn n h x=>.exn n (e.im _ _ trivial h) x
 | _,_,.ktu h r=>.ktu h<|AVs.jv e r
theorem AVs.jv(e:Ext0 ρ ρ' H H'):∀{xs:ae}{vs:List V},AVs K ρ H xs vs->AVs K ρ' H' xs vs
 | _,_,.nil=>.nil
 | _,_,.cons h t=>.cons (AV.jv e h)<|AVs.jv e t
end
theorem DV.jv(e:Ext0 ρ ρ' H H'):∀{xs:List<|ag×A}{vs:List<|List Key×V},DV K ρ H xs vs->DV K ρ' H' xs vs
 | [],[],_=>trivial
 | _::_,_::_,⟨⟨a,b⟩,r⟩=>⟨⟨a,AV.jv e b⟩,DV.jv e r⟩
def DV.ext{x:List<|ag×A}{v:List<|List Key×V}(h:DV K ρ H x v)(e:Ext ρ ρ' H H'):DV K ρ' H' x v:=DV.jv e.toExt0 h
theorem DI.jv(e:Ext0 ρ ρ' H H'):∀{xs:List<|Int×A}{vs:List<|Key×V},DI K ρ H xs vs->DI K ρ' H' xs vs
 | [],[],_=>trivial
 | _::_,_::_,⟨⟨a,b⟩,r⟩=>⟨⟨a,AV.jv e b⟩,DI.jv e r⟩
def DI.ext{x:List<|Int×A}{v:List<|Key×V}(h:DI K ρ H x v)(e:Ext ρ ρ' H H'):DI K ρ' H' x v:=DI.jv e.toExt0 h
theorem DS.jv(e:Ext0 ρ ρ' H H'):∀{xs:List<|Str×A}{vs:List<|Key×V},DS K ρ H xs vs->DS K ρ' H' xs vs
 | [],[],_=>trivial
 | _::_,_::_,⟨⟨a,b⟩,r⟩=>⟨⟨a,AV.jv e b⟩,DS.jv e r⟩
def DS.ext{x:List<|Str×A}{v:List<|Key×V}(h:DS K ρ H x v)(e:Ext ρ ρ' H H'):DS K ρ' H' x v:=DS.jv e.toExt0 h
def zz.jv{k:L2.Ej}(e:Ext0 ρ ρ' H H'):L2.zz H b k->L2.zz H' b k:=λ⟨r1,r2,h1,h2,d⟩=>⟨r1,r2,e.im _ _ trivial h1,e.im _ _ trivial h2,e.im _ _ trivial d⟩
theorem DP.jv(e:Ext0 ρ ρ' H H'):∀{xs:List<|L2.Ej×A}{vs:List<|L2.Ej×aq×aa},DP K ρ H xs vs->DP K ρ' H' xs vs
 | [],[],_=>trivial
 | _::_,_::_,⟨⟨a,k,v,c,b⟩,r⟩=>⟨⟨a,zz.jv e k,v,c,AV.jv e b⟩,DP.jv e r⟩
def DP.ext{x:List<|L2.Ej×A}{v:List<|L2.Ej×aq×aa}(h:DP K ρ H x v)(e:Ext ρ ρ' H H'):DP K ρ' H' x v:=DP.jv e.toExt0 h
def AV.ext{x:A}{v:V}(h:AV K ρ H x v)(e:Ext ρ ρ' H H'):AV K ρ' H' x v:=AV.jv e.toExt0 h
def AVs.ext{x:ae}{v:List V}(h:AVs K ρ H x v)(e:Ext ρ ρ' H H'):AVs K ρ' H' x v:=AVs.jv e.toExt0 h
theorem AVs.length:∀{xs:ae}{vs:List V},AVs K ρ H xs vs->xs.length=vs.length
 | _,_,.nil=>rfl
 | _,_,.cons _ t=>cj (·+1)<|AVs.length t
theorem AVs.append:∀{xs ys:ae}{vs ws:List V},AVs K ρ H xs vs->AVs K ρ H ys ws->AVs K ρ H (xs++ys) (vs++ws)
 | _,_,_,_,.nil,s=>s
 | _,_,_,_,.cons h t,s=>.cons h<|AVs.append t s
theorem AVs.take:∀{xs:ae}{vs:List V}(n:Nat),AVs K ρ H xs vs->AVs K ρ H (xs.take n) (vs.take n)
 | _,_,0,_=>.nil
 | _,_,_+1,.nil=>.nil
 | _,_,n+1,.cons h t=>.cons h<|AVs.take n t
theorem AVs.drop:∀{xs:ae}{vs:List V}(n:Nat),AVs K ρ H xs vs->AVs K ρ H (xs.drop n) (vs.drop n)
 | _,_,0,r=>r
 | _,_,_+1,.nil=>.nil
 | _,_,n+1,.cons _ t=>AVs.drop n t
theorem AVs.reverse:∀{xs:ae}{vs:List V},AVs K ρ H xs vs->AVs K ρ H xs.reverse vs.reverse
 | _,_,.nil=>.nil
 | _,_,.cons h t=>by rw[fJ,fJ];exact(AVs.reverse t).append (.cons h .nil)
theorem AVs.get:∀{xs:ae}{vs:List V}{i:Nat}{x:A},AVs K ρ H xs vs->xs[i]?=some x->∃v,vs[i]?=some v/\AV K ρ H x v
 | _,_,_,_,.nil,e=>by simp at e
 | _,_,0,_,.cons h _,e=>by simp at e;subst e;exact⟨_,rfl,h⟩
 | _,_,i+1,x,.cons _ t,e=>by
  obtain⟨u,h1,h2⟩:=AVs.get (i:=i) (x:=x) t (by simpa using e);exact⟨u,by simpa using h1,h2⟩
theorem AVs.set{x:A}{v:V}(h:AV K ρ H x v):∀{xs:ae}{vs:List V}(i:Nat),AVs K ρ H xs vs->AVs K ρ H (xs.set i x) (vs.set i v)
 | _,_,_,.nil=>.nil
 | _,_,0,.cons _ t=>.cons h t
 | _,_,i+1,.cons q t=>.cons q<|AVs.set h i t
def AVs.one{x:A}{v:V}(h:AV K ρ H x v):AVs K ρ H [x] [v]:=.cons h .nil
theorem pQ:∀(ns:ag),AVs K ρ H (ns.map .int) (ns.map .int)
 | []=>.nil
 | n::ns=>.cons (.int n)<|pQ ns
def Rel.lay{S:iC}{p:aq}(R:Rel K ρ H S)(hp:H p=none)(r:AVs K ρ H xs vs):Ext ρ (ρ++[p]) H (upd H p<|.lst vs)/\Rel K (ρ++[p]) (upd H p<|.lst vs) (S++[.lst xs])/\(ρ++[p])[S.length]?=some p:=by
 have ex:Ext ρ (ρ++[p]) H (upd H p<|.lst vs):=⟨⟨dc _ _,λa u _ h=>by rw[iB<|iM h hp];exact h⟩,λa u h _=>by rw[iB<|iM h hp];exact h,λa h=>by
  rcases bA.mp h with z|z
  ·exact .inl z
  ·have e:a=p:=by simpa using z
   rw[e];exact .inr hp⟩
 have g:∀(n:Nat) (a:aq),ρ[n]?=some a->a≠p:=by
  intro n a e z;subst z;have hn:n<S.length:=by rw[<- R.len];exact(aK.mp e).1
  have:=R.at n a S[n] e (aH hn)
  cases j:S[n]with
  | lst xs=>rw[j]at this;obtain⟨vs,h,_⟩:=this;rw[hp]at h;cases h
  | dct _|mY _|dks _|dcp _=>rw[j]at this;obtain⟨vs,h,_⟩:=this;rw[hp]at h;cases h
  | dcf _|dkf _=>rw[j]at this;obtain⟨_,vs,h,_⟩:=this;rw[hp]at h;cases h
  | ins _ _=>rw[j]at this;obtain⟨_,_,h⟩:=this;rw[hp]at h;cases h
 have d:(ρ++[p])[S.length]?=some p:=by rw[<- R.len];simp
 refine⟨ex,⟨by simp[R.len],?_,?_⟩,d⟩
 ·rw[cH];refine⟨R.nd,by simp,λa m b hb e=>?_⟩;have:b=p:=by simpa using hb
  obtain⟨n,hn,B⟩:=dF.mp m;exact g n a (by rw[aH hn,B])<|e.trans this
 ·intro n a o h1 h2;by_cases hn:n<S.length
  ·rw[aS<|by rw[R.len];exact hn]at h1;rw[aS hn]at h2;have:=R.at n a o h1 h2
   cases o with
   | lst ys=>obtain⟨f,e,q⟩:=this;exact⟨f,by rw[iB<|g n a h1];exact e,q.ext ex⟩
   | dct _|mY _|dks _|dcp _=>obtain⟨f,e,q⟩:=this;exact⟨f,by rw[iB<|g n a h1];exact e,q.ext ex⟩
   | dcf _|dkf _=>obtain⟨k,f,e,q⟩:=this;exact⟨k,f,by rw[iB<|g n a h1];exact e,q.ext ex⟩
   | ins _ _=>obtain⟨k,t,e⟩:=this;exact⟨k,t,by rw[iB<|g n a h1];exact e⟩
  ·have e:n=S.length:=by
    have:=(aK.mp h2).1;simp at this
    lia
   subst e;rw[d]at h1
   cases h1
   simp at h2;subst h2;exact⟨vs,iW,r.ext ex⟩
def Rel.im{p:aq}(R:Rel K ρ H S)(hp:H p=none):Ext ρ ρ H (upd H p u)/\Rel K ρ (upd H p u) S:=by
 have ex:Ext ρ ρ H (upd H p u):=⟨⟨cI _,λa u _ h=>by rw[iB<|iM h hp];exact h⟩,λa u h _=>by rw[iB<|iM h hp];exact h,λ_ h=>.inl h⟩;refine⟨ex,R.len,R.nd,λn a o h1 h2=>?_⟩;have:=R.at n a o h1 h2
 cases o with
 | lst ys=>obtain⟨d,e,q⟩:=this;exact⟨d,by rw[iB<|iM e hp];exact e,q.ext ex⟩
 | dct _|mY _|dks _|dcp _=>obtain⟨d,e,q⟩:=this;exact⟨d,by rw[iB<|iM e hp];exact e,q.ext ex⟩
 | dcf _|dkf _=>obtain⟨f,d,e,q⟩:=this;exact⟨f,d,by rw[iB<|iM e hp];exact e,q.ext ex⟩
 | ins _ _=>obtain⟨f,g,e⟩:=this;exact⟨f,g,by rw[iB<|iM e hp];exact e⟩
def Rel.put{S:iC}{n:Nat}{a:aq}(R:Rel K ρ H S)(J:ρ[n]?=some a)(L:S[n]?=some (.lst xs))(r:AVs K ρ H ys ws):Ext ρ ρ H (upd H a<|.lst ws)/\Rel K ρ (upd H a<|.lst ws) (S.set n<|.lst ys):=by
 obtain⟨k,e,_⟩:=R.at n a _ J L;have ex:Ext ρ ρ H (upd H a<|.lst ws):=⟨⟨cI _,λb u i h=>by
  have:b≠a:=by
   intro z;subst z;rw[e]at h;cases h;exact i
  rw[iB this];exact h⟩,λb u h n=>by
  rw[iB λz=>n<|by rw[z];exact bx J];exact h,λ_ h=>.inl h⟩
 refine⟨ex,by rw[bG];exact R.len,R.nd,λm b o h1 h2=>?_⟩;by_cases hm:m=n
 ·subst hm;rw[J]at h1;cases h1;rw[bF (aK.mp L).1]at h2
  cases h2
  exact⟨ws,iW,r.ext ex⟩
 ·rw[bE<|b_ hm]at h2;have nb:b≠a:=λz=>by
   subst z;obtain⟨t,e1⟩:=aK.mp J;obtain⟨B,e2⟩:=aK.mp h1;exact hm<|(eN R.nd).mp<|e2.trans e1.symm
  have:=R.at m b o h1 h2
  cases o with
  | lst ys=>obtain⟨d,f,q⟩:=this;exact⟨d,by rw[iB nb];exact f,q.ext ex⟩
  | dct _|mY _|dks _|dcp _=>obtain⟨d,f,q⟩:=this;exact⟨d,by rw[iB nb];exact f,q.ext ex⟩
  | dcf _|dkf _=>obtain⟨g,d,f,q⟩:=this;exact⟨g,d,by rw[iB nb];exact f,q.ext ex⟩
  | ins _ _=>obtain⟨g,j,f⟩:=this;exact⟨g,j,by rw[iB nb];exact f⟩
def Rel.lst{n:Nat}{a:aq}(R:Rel K ρ H S)(j:ρ[n]?=some a)(J:S[n]?=some (.lst xs)):∃vs,H a=some (.lst vs)/\AVs K ρ H xs vs:=R.at n a _ j J
structure SR (K:aA)(ρ:bd)(H:Hp)(τ:ae)(σ:St):Prop where
 len:τ.length=σ.length
 «at»:∀(i:Nat) (a:A),τ[i]?=some a->a=.unb\/∃v,σ[i]?=some (some v)/\AV K ρ H a v
def SR.jv(s:SR K ρ H τ σ)(e:Ext0 ρ ρ' H H'):SR K ρ' H' τ σ:=⟨s.len,λi a h=>by
 rcases s.at i a h with z|⟨v,h1,h2⟩
 ·exact .inl z
 ·exact .inr ⟨v,h1,AV.jv e h2⟩⟩
def SR.ext(s:SR K ρ H τ σ)(e:Ext ρ ρ' H H'):SR K ρ' H' τ σ:=s.jv e.toExt0
def Rel.out(R:Rel K ρ H S)(j:H D=some (.lst vs))(hn:D∉ρ):Ext0 ρ ρ H (upd H D<|.lst ws)/\Rel K ρ (upd H D<|.lst ws) S:=by
 have ex:Ext0 ρ ρ H (upd H D<|.lst ws):=⟨cI _,λb u i h=>by
  have:b≠D:=by
   intro z;subst z;rw[j]at h;cases h;exact i
  rw[iB this];exact h⟩
 refine⟨ex,R.len,R.nd,λn a o h1 h2=>?_⟩;have na:a≠D:=λz=>hn (by rw[<- z];exact bx h1);have:=R.at n a o h1 h2
 cases o with
 | lst ys=>obtain⟨d,e,q⟩:=this;exact⟨d,by rw[iB na];exact e,AVs.jv ex q⟩
 | dct _|mY _|dks _|dcp _=>obtain⟨d,e,q⟩:=this;exact⟨d,by rw[iB na];exact e,q.jv ex⟩
 | dcf _|dkf _=>obtain⟨f,d,e,q⟩:=this;exact⟨f,d,by rw[iB na];exact e,q.jv ex⟩
 | ins _ _=>obtain⟨f,g,e⟩:=this;exact⟨f,g,by rw[iB na];exact e⟩
def Rel.take{S:iC}{D:aq}(R:Rel K ρ H S)(J:H D=some (.lst vs))(hn:D∉ρ)(r:AVs K ρ H xs vs):Rel K (ρ++[D]) H (S++[.lst xs])/\(ρ++[D])[S.length]?=some D:=by
 have ex:Ext0 ρ (ρ++[D]) H H:=⟨dc _ _,λ_ _ _ h=>h⟩;have d:(ρ++[D])[S.length]?=some D:=by rw[<- R.len];simp
 refine⟨⟨by simp[R.len],?_,λn a o h1 h2=>?_⟩,d⟩
 ·rw[cH];refine⟨R.nd,by simp,λa j b hb e=>?_⟩;have:b=D:=by simpa using hb
  exact hn<|by rw[<- this,<- e];exact j
 ·by_cases hs:n<S.length
  ·rw[aS<|by rw[R.len];exact hs]at h1;rw[aS hs]at h2;have:=R.at n a o h1 h2
   cases o with
   | lst ys=>obtain⟨f,e,q⟩:=this;exact⟨f,e,AVs.jv ex q⟩
   | dct _|mY _|dks _|dcp _=>obtain⟨f,e,q⟩:=this;exact⟨f,e,q.jv ex⟩
   | dcf _|dkf _=>obtain⟨g,f,e,q⟩:=this;exact⟨g,f,e,q.jv ex⟩
   | ins _ _=>obtain⟨g,k,e⟩:=this;exact⟨g,k,e⟩
  ·have e:n=S.length:=by
    have:=(aK.mp h2).1;simp at this
    lia
   subst e;rw[d]at h1
   cases h1
   simp at h2;subst h2;exact⟨vs,J,AVs.jv ex r⟩
def SR.set{τ:ae}{σ:St}{a:A}{v:V}(s:SR K ρ H τ σ)(h:AV K ρ H a v):SR K ρ H (τ.set i a) (σ.set i<|some v):=by
 refine⟨by simp[s.len],λj b e=>?_⟩;by_cases d:j=i
 ·subst d;have f:j<τ.length:=by
   have:=(aK.mp e).1;simpa using this
  rw[bF f]at e
  cases e
  exact .inr ⟨v,bF<|by rw[<- s.len];exact f,h⟩
 ·rw[bE<|b_ d]at e;rw[bE<|b_ d];exact s.at j b e
end
end Am
namespace Am
open PySem PySem.Spec PyProof.Rows L2
abbrev XE (X:Cx)(ρ:bd)(H:Hp):Str->iC->Prop:=λc d=>∀(C:aq) (ρ':bd) (H':Hp),SN X.K c C->Ext ρ ρ' H H'->Rel X.K ρ' H' d->EX X (.ref C) none H'
def XE.ext{H H':Hp}(h:XE X ρ H c S)(e:Ext ρ ρ' H H'):XE X ρ' H' c S:=λC d H2 n e2=>h C d H2 n<|e.trans e2
abbrev tM (X:Cx)(ρ:bd)(H:Hp)(Q:VK):A->iC->Prop:=λa d=>∀ρ' H' v,Ext ρ ρ' H H'->Rel X.K ρ' H' d->AV X.K ρ' H' a v->Q v H'
abbrev QG (X:Cx)(ρ:bd)(H:Hp)(Q:Bool->Hp->Prop):Bool->iC->Prop:=λb d=>∀ρ' H',Ext ρ ρ' H H'->Rel X.K ρ' H' d->Q b H'
abbrev Tv (X:Cx)(ρ:bd)(H:Hp)(Q:List V->Hp->Prop):ae->iC->Prop:=λg f=>∀ρ' H' d,Ext ρ ρ' H H'->Rel X.K ρ' H' f->AVs X.K ρ' H' g d->Q d H'
def tM.ext{H H':Hp}{Q:VK}{a:A}(h:tM X ρ H Q a S)(e:Ext ρ ρ' H H'):tM X ρ' H' Q a S:=λd H2 v e2=>h d H2 v<|e.trans e2
def QG.ext{H H':Hp}{Q:Bool->Hp->Prop}{a:Bool}(h:QG X ρ H Q a S)(e:Ext ρ ρ' H H'):QG X ρ' H' Q a S:=λd H2 e2=>h d H2<|e.trans e2
def iz{α:Type}{H H':Hp}{r:R α}{P j:α->iC->Prop}(h:r.post P<|XE X ρ H)(e:Ext ρ ρ' H H')(hp:∀a S,P a S->j a S):r.post j (XE X ρ' H'):=DO h hp λ_ _ z=>z.ext e
abbrev tE (X:Cx)(c:Ex):TE:=λσ H Q=>∃ρ S τ,Rel X.K ρ H S/\SR X.K ρ H τ σ/\(c τ S).post (tM X ρ H Q) (XE X ρ H)
abbrev tT (X:Cx)(c:Te):TT:=λσ H Q=>∃ρ S τ,Rel X.K ρ H S/\SR X.K ρ H τ σ/\(c τ S).post (QG X ρ H Q) (XE X ρ H)
abbrev tL (X:Cx)(c:n6):TA:=λσ H Q=>∃ρ S τ,Rel X.K ρ H S/\SR X.K ρ H τ σ/\(c τ S).post (Tv X ρ H Q) (XE X ρ H)
abbrev AE (X:Cx)(e:aF)(c:Ex):Prop:=PE X e<|tE X c
abbrev AT (X:Cx)(e:aF)(c:Te):Prop:=PT X e<|tT X c
abbrev AW (X:Cx)(e:aF)(c:Te):Prop:=PW X e<|tT X c
abbrev AL (X:Cx)(es:List aF)(c:n6):Prop:=PA X es<|tL X c
def PE.imp{t t':TE}(h:PE X e t)(i:∀σ H Q,t' σ H Q->t σ H Q):PE X e t':=λpins s σ H Q I q=>h pins s σ H Q I<|i σ H Q q
def PT.imp{t t':TT}(h:PT X e t)(i:∀σ H Q,t' σ H Q->t σ H Q):PT X e t':=λpins s σ H Q I q=>h pins s σ H Q I<|i σ H Q q
def PW.imp{t t':TT}(h:PW X e t)(i:∀σ H Q,t' σ H Q->t σ H Q):PW X e t':=λw pins s σ H Q I q=>h w pins s σ H Q I<|i σ H Q q
def PA.imp{t t':TA}(h:PA X e t)(i:∀σ H Q,t' σ H Q->t σ H Q):PA X e t':=λp pins s σ H Q I q=>h p pins s σ H Q I<|i σ H Q q
def AW.at{c:Te}(h:AW X e c):AT X e c:=h _
abbrev A.kQ:A->Bool
 | .unb=>true
 | _=>false
abbrev iu (i:Nat):Ex:=λτ S=>if (τ.getD i .unb).kQ then .no else .ok (τ.getD i .unb) S
abbrev eC (a:A):Ex:=λ_ S=>.ok a S
section
variable {X:Cx}{pos:Pos}{a b:aF}
theorem ir(i:Nat){x:Str}(J:X.N[i]?=some x<|>ε)(hv:Ot X.env.scope x:=by first|exact Or.inl rfl|exact Or.inr (Or.inl rfl)|exact Or.inr<|Or.inr rfl)(hd:(x == ("__debug__" : Str))=false:=by decide)
  (j:(x == ("__classdict__" : Str))=false:=by decide):AE X (.Name x pos) (iu i):=PE.imp (ET J hv hd j) λσ H Q h9=>by
 z_go;unfold iu at h
 cases hi:τ[i]? with
 | none=>
  rw[aI,hi]at h;exact h.elim
 | some x=>
  rw[aI,hi]at h
  rcases r.at i x hi with z|⟨v,e,q⟩
  ·subst z;exact h.elim
  ·refine⟨v,e,?_⟩
   cases x<;>first|(exact h ρ H v .refl R q)|exact h.elim
def iI{i:Int}{j pos}:AE X (.Constant (.int i) j pos) (eC<|.int i):=PE.imp Au λσ H Q ⟨ρ,S,τ,R,r,h⟩=>h ρ H _ .refl R<|.int i
def tF{j pos}:AE X (.Constant (.bool i) j pos) (eC<|.bl i):=PE.imp P5 λσ H Q ⟨ρ,S,τ,R,r,h⟩=>h ρ H _ .refl R<|.bl i
def yv{x:Str}{i:Int}{t:Tok}(hm:X.mg x=some (.int i t))(hg:Gl X x<|>ε)(hd:(x == ("__debug__" : Str))=false<|>δ):AE X (.Name x pos) (eC<|.int i):=
 PE.imp (Jw (v:=.int i) hg hm ⟨t,rfl⟩ hd) λσ H Q ⟨ρ,S,τ,R,r,h⟩=>h ρ H _ .refl R<|.int i
abbrev iL (f:A->A->iC->R A)(ca cb:Ex):Ex:=λτ S=>(ca τ S).bind λa S1=>(cb τ S1).bind λb S2=>f a b S2
abbrev r2 (X:Cx)(f:A->A->iC->R A):R2:=λx y H Q=>∃ρ S a b,Rel X.K ρ H S/\AV X.K ρ H a x/\AV X.K ρ H b y/\(f a b S).post (tM X ρ H Q) (XE X ρ H)
abbrev r1 (X:Cx)(f:A->iC->R A):V->Hp->VK->Prop:=λx H Q=>∃ρ S a,Rel X.K ρ H S/\AV X.K ρ H a x/\(f a S).post (tM X ρ H Q) (XE X ρ H)
abbrev rN (X:Cx)(f:ae->iC->R A):List V->Hp->VK->Prop:=λxs H Q=>∃ρ S d,Rel X.K ρ H S/\AVs X.K ρ H d xs/\(f d S).post (tM X ρ H Q) (XE X ρ H)
def lV.imp{f:aa->aa->Sem aa}{r r':R2}(h:lV X f r)(i:∀x y H Q,r' x y H Q->r x y H Q):lV X f r':=λpins s σ H x y v u Q I rx ry q=>h pins s σ H x y v u Q I rx ry<|i _ _ _ _ q
def jc.imp{f:aa}{r r':List V->Hp->VK->Prop}(h:jc X f r)(i:∀x H Q,r' x H Q->r x H Q):jc X f r':=λpins s σ H x v Q I rx q=>h pins s σ H x v Q I rx<|i _ _ _ q
def p6{f:A->A->iC->R A}{ca cb:Ex}{H:Hp}{Q:VK}(h:tE X (iL f ca cb) σ H Q):P_ (r2 X f) (tE X ca) (tE X cb) σ H Q:=by
 kl_no;refine⟨ρ,S,τ,R,r,iz (iD h) .refl λa S1 h1 ρ1 H1 x e1 g m=>⟨ρ1,S1,τ,g,r.ext e1,iz (iD h1) e1 λb S2 h2 d H2 y e2 R2 j=>?_⟩⟩;exact⟨d,S2,a,b,R2,m.ext e2,j,iz h2 (e1.trans e2) λc S3 k=>k.ext<|e1.trans e2⟩
def je{f:A->A->iC->R A}{ca cb:Ex}(j:lV X (binaryOp op)<|r2 X f)(J:AE X a ca)(hb:AE X b cb):AE X (.BinOp a op b pos) (iL f ca cb):=
 PE.imp (O9 j J hb) λσ H Q h=>p6 h
def nX{j:CmpOp}{f:A->A->iC->R A}{ca cb:Ex}(J:lV X (compareOp j)<|r2 X f)(L:AE X a ca)(hb:AE X b cb)(hm:behindInMarks j b=false:=by first|exact GP _|with_unfolding_all rfl):AE X (.Compare a [j] [b] pos) (iL f ca cb):=
 PE.imp (J1 J L hb hm) λσ H Q h=>p6 h
abbrev A.P6:A->iC->bn
 | .non,_=>some false
 | .bl b,_=>some b
 | .int i,_=>some (i != 0)
 | .str x,_=>if x.length<=sizeLine then some ((x.length:Int) != 0)else none
 | .tup xs,_=>some (!xs.isEmpty)
 | .frz xs,_=>some (!xs.isEmpty)
 | .ref n,S=>(iw S n).map λxs=>!xs.isEmpty
 | _,_=>none
abbrev vt (c:Ex):Te:=λτ S=>(c τ S).bind λa S1=>opt (a.P6 S1) λb=>.ok b S1
abbrev p_ (c:Ex):Te:=λτ S=>(c τ S).bind λa S1=>match a with
 | .bl b=>.ok b S1
 | _=>.no
def zd{K:aA}{H:Hp}{b:Bool}{v:V}(h:AV K ρ H (.bl b) v):v=.bl b:=by cases h;rfl
def jw{j:CmpOp}{f:A->A->iC->R A}{ca cb:Ex}(J:lV X (compareOp j)<|r2 X f)(L:AE X a ca)(hb:AE X b cb)(hm:behindInMarks j b=false:=by first|exact GP _|with_unfolding_all rfl):AT X (.Compare a [j] [b] pos) (p_<|iL f ca cb):=
 PT.imp (JT J L hb hm) λσ H Q h9=>by
  z_go;refine p6 ⟨ρ,S,τ,R,r,iz (iD h) .refl λc S1 h1 ρ1 H1 x e1 g d=>?_⟩
  cases c with
  | bl k=>cases zd d;exact⟨k,rfl,h1 ρ1 H1 e1 g⟩
  | _=>exact h1.elim
def Nl{K:aA}{H:Hp}{x:A}{v:V}{b:Bool}(R:Rel K ρ H S)(h:AV K ρ H x v)(e:x.P6 S=some b):Nx K v H b:=by
 have d:∀{xs:ae} {f:List V},AVs K ρ H xs f->(!xs.isEmpty)=!f.isEmpty:=λr=>by cases r<;>rfl
 cases h with
 | non=>exact(aV e).symm
 | bl b=>exact(aV e).symm
 | int i=>exact(aV e).symm
 | str x=>
  by_cases hx:x.length<=sizeLine
  ·exact⟨hx,by have:=(aR hx).symm.trans e;exact(aV this).symm⟩
  ·have:=(aU hx).symm.trans e;cases this
 | tup h r=>exact .inr (.inl ⟨_,lW.of h,by rw[<- d r];exact(aV e).symm⟩)
 | frz h r=>exact .inl ⟨_,h.J0,by rw[<- d r];exact(aV e).symm⟩
 | rng h=>cases e
 | ty n=>cases e
 | exn n h x=>cases e
 | ktu h r=>cases e
 | @ref a n h=>
  have e:(iw S n).map (λxs=>!xs.isEmpty)=some b:=e;obtain⟨xs,hn,e⟩:=bh.mp e;obtain⟨f,h1,h2⟩:=R.lst h<|iK hn;exact .inl ⟨f,jR.of h1,by rw[<- d h2];exact e.symm⟩
def pS{ca:Ex}(j:AE X a ca)(J:(∀whole,isTrue a X.env whole=(do let v <- whole;standAt a.pos;holding [v] (truthy v)))<|>ζ):AT X a (vt ca):=
 PT.imp (Ff j J) λσ H Q ⟨ρ,S,τ,R,r,h⟩=>⟨ρ,S,τ,R,r,iz (iD h) .refl λc S1 h1 ρ1 H1 x e1 d f=>by
  obtain⟨b,hb,h1⟩:=iF h1;exact⟨b,Nl d f hb,h1 ρ1 H1 e1 d⟩⟩
abbrev ze (c:Te):Te:=λτ S=>(c τ S).bind λb S1=>.ok (!b) S1
abbrev vB (c d:Te):Te:=λτ S=>(c τ S).bind λb S1=>match b with|true=>d τ S1|false=>.ok false S1
abbrev LC (c d:Te):Te:=λτ S=>(c τ S).bind λb S1=>match b with|true=>.ok true S1|false=>d τ S1
def rX{c:Te}(h:AT X a c):AT X (.UnaryOp .Not a pos) (ze c):=PT.imp (MR h) λσ H Q ⟨ρ,S,τ,R,r,h⟩=>⟨ρ,S,τ,R,r,iz (iD h) .refl λb S1 h1=>h1⟩
def and_imp{c d:Te}{H:Hp}{Q:Bool->Hp->Prop}(h:tT X (vB c d) σ H Q):OH (tT X c) (tT X d) σ H Q:=by
 kl_no;refine⟨ρ,S,τ,R,r,iz (iD h) .refl λb S1 h1 ρ1 H1 e1 f=>?_⟩
 cases b with
 | true=>
  rw[aR rfl];exact⟨ρ1,S1,τ,f,r.ext e1,iz h1 e1 λ_ _ z=>z.ext e1⟩
 | false=>
  rw[aU bf];exact h1 ρ1 H1 e1 f
def or_imp{c d:Te}{H:Hp}{Q:Bool->Hp->Prop}(h:tT X (LC c d) σ H Q):Sd (tT X c) (tT X d) σ H Q:=by
 kl_no;refine⟨ρ,S,τ,R,r,iz (iD h) .refl λb S1 h1 ρ1 H1 e1 f=>?_⟩
 cases b with
 | false=>
  rw[aU bf];exact⟨ρ1,S1,τ,f,r.ext e1,iz h1 e1 λ_ _ z=>z.ext e1⟩
 | true=>
  rw[aR rfl];exact h1 ρ1 H1 e1 f
variable {rest:List aF}
def t_{c:Te}(h:AT X a c):AW X (.BoolOp .And [a] pos) c:=J7 h
def xD{c:Te}(h:AT X a c):AW X (.BoolOp .Or [a] pos) c:=My h
def xN{c d:Te}(h:AT X a c)(h2:AW X (.BoolOp .And (b::rest) pos) d):AW X (.BoolOp .And (a::b::rest) pos) (vB c d):=PW.imp (N9 h h2) λ_ _ _ q=>and_imp q
def yf{c d:Te}(h:AT X a c)(h2:AW X (.BoolOp .Or (b::rest) pos) d):AW X (.BoolOp .Or (a::b::rest) pos) (LC c d):=PW.imp (PU h h2) λ_ _ _ q=>or_imp q
abbrev vq (c d:Ex):Ex:=λτ S=>(c τ S).bind λa S1=>match a with | .bl true=>d τ S1 | .bl false=>.ok (.bl false) S1|_=>.no
abbrev Sz (c d:Ex):Ex:=λτ S=>(c τ S).bind λa S1=>match a with | .bl true=>.ok (.bl true) S1 | .bl false=>d τ S1|_=>.no
abbrev Mj (c:Ex):Ex:=λτ S=>(c τ S).bind λa S1=>match a with | .bl b=>.ok (.bl !b) S1|_=>.no
def sE{op}{c:Ex}(h:AE X a c):AE X (.BoolOp op [a] pos) c:=Nm h
def qj{c d:Ex}(h:AE X a c)(h2:AE X (.BoolOp .And (b::rest) pos) d):AE X (.BoolOp .And (a::b::rest) pos) (vq c d):=PE.imp (Oj h h2) λσ H Q h9=>by
 z_go;refine⟨ρ,S,τ,R,r,iz (iD h) .refl λb S1 h1 ρ1 H1 x e1 f g=>?_⟩
 cases b with
 | bl k=>
  cases zd g
  refine⟨k,rfl,?_⟩
  cases k with
  | true=>
   rw[aR rfl];exact⟨ρ1,S1,τ,f,r.ext e1,iz h1 e1 λ_ _ z=>z.ext e1⟩
  | false=>
   rw[aU bf];exact h1 ρ1 H1 _ e1 f<|.bl false
 | _=>exact h1.elim
def Ms{c:Ex}(h:AE X a c):AE X (.UnaryOp .Not a pos) (Mj c):=PE.imp (MK h) λσ H Q h9=>by
 z_go;refine⟨ρ,S,τ,R,r,iz (iD h) .refl λb S1 h1 ρ1 H1 x e1 f d=>?_⟩
 cases b with
 | bl k=>
  cases zd d
  exact⟨k,rfl,h1 ρ1 H1 _ e1 f<|.bl _⟩
 | _=>exact h1.elim
abbrev TF (t:Te)(c d:Ex):Ex:=λτ S=>(t τ S).bind λb S1=>match b with|true=>c τ S1|false=>d τ S1
abbrev iJ:n6:=λ_ S=>.ok [] S
abbrev iy (c:Ex)(d:n6):n6:=λτ S=>(c τ S).bind λa S1=>(d τ S1).bind λf S2=>.ok (a::f) S2
def iG:AL X [] iJ:=PA.imp rV λσ H Q ⟨ρ,S,τ,R,r,h⟩=>h ρ H _ .refl R .nil
def iA{c:Ex}{d:n6}(J:AE X e c)(hr:AL X es d)(hs:starEach (e::es) X.env=(false,eval e X.env)::starEach es X.env<|>ε):AL X (e::es) (iy c d):=
 PA.imp (k9 J hr hs) λσ H Q h9=>by
  z_go;refine⟨ρ,S,τ,R,r,iz (iD h) .refl λa S1 h1 ρ1 H1 x e1 g k=>⟨ρ1,S1,τ,g,r.ext e1,iz (iD h1) e1 λm S2 h2 f H2 xs e2 R2 j=>?_⟩⟩;exact h2 f H2 _ (e1.trans e2) R2<|.cons (k.ext e2) j
abbrev qc (d:n6):Ex:=λτ S=>(d τ S).bind λf S1=>gd (f.length<=sizeLine)<|.ok (.tup f) S1
abbrev newL (j:ae)(S:iC):R A:=gd (j.length<=sizeLine)<|.ok (.ref S.length)<|S++[.lst j]
abbrev qX (d:n6):Ex:=λτ S=>(d τ S).bind λf S1=>newL f S1
def tX{H j:Hp}{Q:VK}(R:Rel X.K ρ H S)(r:AVs X.K ρ H as vs)(e:Ext ρ0 ρ j H)(h:tM X ρ0 j Q (.tup as) S):∀p,H p=none->Q (.ref p) (upd H p<|.tup vs):=λp hp=>by
 obtain⟨ex,d⟩:=R.im (u:=.tup vs) hp;exact h ρ _ _ (e.trans ex) d<|.tup iW<|r.ext ex
def ku{H j:Hp}{S:iC}{Q:VK}(R:Rel X.K ρ H S)(r:AVs X.K ρ H as vs)(e:Ext ρ0 ρ j H)(h:tM X ρ0 j Q (.ref S.length)<|S++[.lst as]):∀p,H p=none->Q (.ref p) (upd H p<|.lst vs):=λp hp=>by
 obtain⟨ex,d,g⟩:=R.lay hp r;exact h _ _ _ (e.trans ex) d<|.ref g
def Km{H j:Hp}{vs:List V}{Q:VK}(R:Rel X.K ρ H S)(r:AVs X.K ρ H as vs)(e:Ext ρ0 ρ j H)(h:(newL as S).post (tM X ρ0 j Q)<|XE X ρ0 j):vs.length<=sizeLine/\∀p,H p=none->Q (.ref p) (upd H p<|.lst vs):=by
 obtain⟨d,h⟩:=iY h;exact⟨by rw[<- r.length];exact d,ku R r e h⟩
def oJ{d:n6}{x1}(h:AL X es d):AE X (.Tuple es x1 pos) (qc d):=PE.imp (Nd h) λσ H Q h9=>by
 z_go;refine⟨ρ,S,τ,R,r,iz (iD h) .refl λk S1 h1 ρ1 H1 xs e1 g f=>?_⟩;obtain⟨j,h1⟩:=iY h1;exact⟨by rw[<- f.length];exact j,tX g f e1 h1⟩
def ny{d:n6}(h:AL X es d):AE X (.List es pos) (qX d):=PE.imp (Ma h) λσ H Q ⟨ρ,S,τ,R,r,h⟩=>
 ⟨ρ,S,τ,R,r,iz (iD h) .refl λj S1 h1 ρ1 H1 xs e1 g f=>Km g f e1 h1⟩
end
section
variable {X:Cx}{pos:Pos}{a b:aF}
abbrev aSub (a b:A)(S:iC):R A:=match a,b with
 | .int i,.int j=>.ok (.int<|i-j) S
 | _,_=>.no
def Hs:lV X (binaryOp .Sub) (r2 X aSub):=lV.imp NB λx y H Q h9=>by
 x_go
 cases va<;>first|exact h.elim|(cases vb<;>first|exact h.elim|exact⟨_,_,rfl,rfl,h _ _ _ .refl R<|.int _⟩)
abbrev Cu (i j:Int):Bool:=(decide (-(2 ^ 64)<i) && decide (i<2 ^ 64)) || (decide (-(2 ^ 64)<j) && decide (j<2 ^ 64))
def mulOk_of{i j:Int}(h:Cu i j=true):JW i j:=by
 unfold Cu at h;dsimp[g_,c7,fK]at h;exact h
abbrev zT (a b:A)(S:iC):R A:=match a,b with
 | .int i,.int j=>gd (Cu i j) (.ok (.int<|i * j) S)
 | .ref n,.int k=>opt (iw S n) λxs=>gd (-(2 ^ 63)<=k/\k<2 ^ 63/\xs.length * k.toNat<=sizeLine) (.ok (.ref S.length)<|S++[.lst (List.replicate k.toNat xs).flatten])
 | _,_=>.no
theorem AVs.rep{K:aA}{H:Hp}(r:AVs K ρ H xs vs):∀k:Nat,AVs K ρ H (List.replicate k xs).flatten (List.replicate k vs).flatten
 | 0=>.nil
 | k+1=>by rw[cK,cK,bQ,bQ];exact r.append<|AVs.rep r k
def Hr:lV X (binaryOp .Mult) (r2 X zT):=λpins s σ H x y v u Q I rx ry h9=>by
 x_go
 cases va with
 | int i=>
  cases vb with
  | int j=>
   obtain⟨hm,h⟩:=iY h;exact M4 pins s σ H _ _ v u Q I rx ry ⟨i,j,rfl,rfl,mulOk_of hm,h _ _ _ .refl R<|.int _⟩
  | _=>exact h.elim
 | @ref p n hp=>
  cases vb with
  | int k=>
   gn_on;obtain⟨hc,h⟩:=iY h;obtain⟨d,h1,h2⟩:=R.lst hp<|iK hn;exact MX pins s σ H _ _ v u Q I rx ry ⟨p,k,d,rfl,rfl,h1,hc.1,hc.2.1,by rw[<- h2.length];exact hc.2.2,ku R (h2.rep _) .refl h⟩
  | _=>exact h.elim
 | _=>exact h.elim
abbrev B7 (a b:A)(S:iC):R A:=match a,b with
 | .int i,.int j=>gd (0<j/\j<18446744073709551616) (.ok (.int<|i / j) S)
 | _,_=>.no
def EM:lV X (binaryOp .FloorDiv) (r2 X B7):=lV.imp HX λx y H Q h9=>by
 x_go
 cases va<;>first|exact h.elim|(cases vb<;>first|exact h.elim|exact⟨_,_,rfl,rfl,(iY h).1,(iY h).2 _ _ _ .refl R<|.int _⟩)
abbrev xh (a b:A)(S:iC):R A:=match a,b with
 | .int i,.int j=>gd (0<j) (.ok (.int<|i % j) S)
 | _,_=>.no
def ye:lV X (binaryOp .Mod) (r2 X xh):=lV.imp Mk λx y H Q h9=>by
 x_go
 cases va<;>first|exact h.elim|(cases vb<;>first|exact h.elim|exact⟨_,_,rfl,rfl,(iY h).1,(iY h).2 _ _ _ .refl R<|.int _⟩)
abbrev Dc (a b:A)(S:iC):R A:=match a,b with
 | .int i,.int j=>gd (0<=j/\j<=1000000/\i.natAbs<2 ^ 64) (.ok (.int<|i ^ j.toNat) S)
 | _,_=>.no
def Lv:lV X (binaryOp .Pow) (r2 X Dc):=lV.imp N7 λx y H Q h9=>by
 x_go
 cases va<;>first|exact h.elim|(cases vb<;>first|exact h.elim|exact⟨_,_,rfl,rfl,(iY h).1,(iY h).2 _ _ _ .refl R<|.int _⟩)
abbrev ow (a b:A)(S:iC):R A:=match a,b with
 | .int i,.int j=>.ok (.int<|i+j) S
 | .tup xs,.tup ys=>gd (xs.length+ys.length<=sizeLine) (.ok (.tup<|xs++ys) S)
 | .str x,.str y=>gd (x.length+y.length<=sizeLine) (.ok (.str<|x++y) S)
 | .ref n,.ref m=>opt (iw S n) λxs=>opt (iw S m) λys=>gd (xs.length+ys.length<=sizeLine) (.ok (.ref S.length)<|S++[.lst<|xs++ys])
 | _,_=>.no
def AVs.nil_inv{K:aA}{H:Hp}(r:AVs K ρ H xs vs):xs=[] ↔ vs=[]:=by cases r<;>simp
def oS:lV X (binaryOp .Add) (r2 X ow):=λpins s σ H x y v u Q I rx ry h9=>by
 x_go
 cases va with
 | int i=>
  cases vb with
  | int j=>exact Mp pins s σ H _ _ v u Q I rx ry ⟨i,j,rfl,rfl,h _ _ _ .refl R<|.int _⟩
  | _=>exact h.elim
 | str x=>
  cases vb with
  | str y=>
   obtain⟨hc,h⟩:=iY h;exact zZ pins s σ H _ _ v u Q I rx ry ⟨x,y,rfl,rfl,hc,h _ _ _ .refl R<|.str _⟩
  | _=>exact h.elim
 | @tup p xs d h1 r1=>
  cases vb with
  | @tup q ys f h2 r2=>
   obtain⟨hc,h⟩:=iY h;by_cases hv:d=[]
   ·have hx:=r1.nil_inv.mpr hv;subst hv hx;exact F4 pins s σ H _ _ v u Q I rx ry ⟨p,q,f,rfl,rfl,lW.of h1,lW.of h2,h _ _ _ .refl R<|.tup h2 r2⟩
   ·refine JB pins s σ H _ _ v u Q I rx ry ⟨p,q,d,f,rfl,rfl,lW.of h1,lW.of h2,hv,by rw[<- r1.length,<- r2.length];exact hc,λe=>?_,λ_=>tX R (r1.append r2) .refl h⟩;have hy:=r2.nil_inv.mpr e;subst hy;rw[bJ]at h;exact h _ _ _ .refl R<|.tup h1 r1
  | _=>exact h.elim
 | @ref p n hp=>
  cases vb with
  | @ref q m k=>
   gn_on;obtain⟨ys,hm,h⟩:=iF h;obtain⟨hc,h⟩:=iY h;obtain⟨d,h1,h2⟩:=R.lst hp<|iK hn;obtain⟨f,t,g⟩:=R.lst k<|iK hm;exact M6 pins s σ H _ _ v u Q I rx ry ⟨p,q,d,f,rfl,rfl,h1,t,by rw[<- h2.length,<- g.length];exact hc,ku R (h2.append g) .refl h⟩
  | _=>exact h.elim
 | _=>exact h.elim
abbrev A.ints:ae->Option (ag)
 | []=>some []
 | .int i::xs=>(A.ints xs).map (i::·)
 | _=>none
def NY{x:A}{bs:ag}(e:A.ints (x::xs)=some bs):∃b cs,x=.int b/\A.ints xs=some cs/\bs=b::cs:=by
 unfold A.ints at e;split at e
 ·rename_i z;cases z
 ·rename_i i ys z
  cases z
  obtain⟨cs,h1,h2⟩:=bh.mp e;exact⟨i,cs,rfl,h1,h2.symm⟩
 ·cases e
def oF{K:aA}{H:Hp}:∀{xs:ae}{vs:List V}{bs:ag},AVs K ρ H xs vs->A.ints xs=some bs->vs=bs.map V.int:=by
 intro xs
 induction xs with
 | nil=>
  intro vs bs h e
  cases h
  cases e
  rfl
 | cons x xs d=>
  intro vs bs h e;obtain⟨b,f,rfl,e1,rfl⟩:=NY e
  cases h with
  | cons h t=>
   cases h
   rw[d t e1];rfl
abbrev Ei (a b:A)(S:iC):R A:=match a,b with
 | .int i,.int j=>.ok (.bl<|decide<|i<j) S
 | _,_=>.no
def D8(J:X.A.units+64<cLine):lV X (compareOp .Lt) (r2 X Ei):=λpins s σ H x y v u Q I rx ry h9=>by
 x_go
 cases va with
 | int i=>
  cases vb with
  | int j=>exact Pf pins s σ H _ _ v u Q I rx ry ⟨i,j,rfl,rfl,h _ _ _ .refl R<|.bl _⟩
  | _=>exact h.elim
 | _=>exact h.elim
abbrev xQ (a b:A)(S:iC):R A:=match a,b with
 | .int i,.int j=>.ok (.bl<|decide<|i<=j) S
 | _,_=>.no
def wO:lV X (compareOp .LtE) (r2 X xQ):=lV.imp Pu λx y H Q h9=>by
 x_go
 cases va<;>first|exact h.elim|(cases vb<;>first|exact h.elim|exact⟨_,_,rfl,rfl,h _ _ _ .refl R<|.bl _⟩)
abbrev Nh (a b:A)(S:iC):R A:=match a,b with
 | .int i,.int j=>.ok (.bl<|decide<|j<i) S
 | _,_=>.no
def JJ(J:X.A.units+64<cLine):lV X (compareOp .Gt) (r2 X Nh):=λpins s σ H x y v u Q I rx ry h9=>by
 x_go
 cases va with
 | int i=>
  cases vb with
  | int j=>exact O2 pins s σ H _ _ v u Q I rx ry ⟨i,j,rfl,rfl,h _ _ _ .refl R<|.bl _⟩
  | _=>exact h.elim
 | _=>exact h.elim
abbrev P4 (a b:A)(S:iC):R A:=match a,b with
 | .int i,.int j=>.ok (.bl<|decide<|j<=i) S
 | _,_=>.no
def Pw:lV X (compareOp .GtE) (r2 X P4):=lV.imp P8 λx y H Q h9=>by
 x_go
 cases va<;>first|exact h.elim|(cases vb<;>first|exact h.elim|exact⟨_,_,rfl,rfl,h _ _ _ .refl R<|.bl _⟩)
abbrev Lw (J:Bool)(a b:A)(S:iC):R A:=match a,b with
 | .bl i,.bl j=>.ok (.bl<|if J then i != j else i == j) S
 | .non,.non=>.ok (.bl<|!J) S
 | .unb,.non=>.no
 | .exn _,.non=>.no
 | _,.non=>.ok (.bl J) S
 | _,_=>.no
abbrev Ln (f:A->iC->R A)(c:Ex):Ex:=λτ S=>(c τ S).bind λa S1=>f a S1
abbrev Dg (a:A)(S:iC):R A:=match a with
 | .int i=>.ok (.int<|-i) S
 | _=>.no
def PV:Qw X (unaryOp .USub) (r1 X Dg):=λpins s σ H x v Q I rx h9=>by
 obtain⟨ρ,S,a,R,va,h⟩:=h9
 cases va with
 | int i=>exact Aq pins s σ H _ v Q I rx ⟨i,rfl,h _ _ _ .refl R<|.int _⟩
 | _=>exact h.elim
def M3{f:A->iC->R A}{c:Ex}{H:Hp}{Q:VK}(h:tE X (Ln f c) σ H Q):Sg (r1 X f) (tE X c) σ H Q:=by
 kl_no;exact⟨ρ,S,τ,R,r,iz (iD h) .refl λa S1 h1 ρ1 H1 x e1 j d=>⟨ρ1,S1,a,j,d,iz h1 e1 λc S3 g=>g.ext e1⟩⟩
def Ah{c:Ex}(h:AE X a c):AE X (.UnaryOp .USub a pos) (Ln Dg c):=PE.imp (Il PV h) λ_ _ _ q=>M3 q
abbrev oV (a b:A)(S:iC):R A:=match a,b with
 | .tup xs,.int i=>opt (oM xs i) λx=>.ok x S
 | .frz xs,.int i=>opt (oM xs i) λx=>.ok x S
 | .ref n,.int i=>opt (iw S n) λxs=>opt (oM xs i) λx=>.ok x S
 | .str z,.int i=>gd (z.length<=sizeLine) (opt (oM z.cps.toList i) λc=>.ok (.str ⟨#[c]⟩) S)
 | _,_=>.no
def AVs.oM{K:aA}{H:Hp}{i:Int}{x:A}(r:AVs K ρ H xs vs)(h:L2.oM xs i=some x):∃v,L2.oM vs i=some v/\AV K ρ H x v:=by
 unfold L2.oM at h ⊢;rw[<- r.length]
 cases d:zD xs.length i with
 | none=>rw[d]at h;cases h
 | some j=>
  rw[d]at h;exact r.get h
def Pk:K3 X (r2 X oV):=λf d pins s σ H x y v u Q I rx ry ⟨ρ,S,a,b,R,va,vb,h⟩ hs=>by
 cases va with
 | @tup p xs g h1 r1=>
  cases vb with
  | int i=>
   obtain⟨x,hx,h⟩:=iF h;obtain⟨z,e,q⟩:=r1.oM hx;exact ML f d pins s σ H _ _ v u Q I rx ry ⟨p,g,i,z,rfl,rfl,lW.of h1,e,h _ _ _ .refl R q⟩ hs
  | _=>exact h.elim
 | @frz p xs g h1 r1=>
  cases vb with
  | int i=>
   obtain⟨x,hx,h⟩:=iF h;obtain⟨z,e,q⟩:=r1.oM hx;exact BP f d pins s σ H _ _ v u Q I rx ry ⟨p,g,i,z,rfl,rfl,h1.J0,e,h _ _ _ .refl R q⟩ hs
  | _=>exact h.elim
 | @ref p n hp=>
  cases vb with
  | int i=>
   gn_on;obtain⟨x,hx,h⟩:=iF h;obtain⟨g,h1,r1⟩:=R.lst hp<|iK hn;obtain⟨z,e,q⟩:=r1.oM hx;exact BP f d pins s σ H _ _ v u Q I rx ry ⟨p,g,i,z,rfl,rfl,jR.of h1,e,h _ _ _ .refl R q⟩ hs
  | _=>exact h.elim
 | str z=>
  cases vb with
  | int i=>
   obtain⟨j,h⟩:=iY h;obtain⟨c,hc,h⟩:=iF h;exact ME f d pins s σ H _ _ v u Q I rx ry ⟨z,i,c,rfl,rfl,j,hc,h _ _ _ .refl R<|.str _⟩ hs
  | _=>exact h.elim
 | _=>exact h.elim
def jD{ca cb:Ex}(j:AE X a ca)(hb:AE X b cb)(hs:uc b<|>θ):AE X (.Subscript a b pos) (iL oV ca cb):=PE.imp (FY Pk j hb hs) λσ H Q h=>p6 h
end
abbrev uJ (f:A->A->bn):ae->ae->bn
 | [],[]=>some true
 | x::xs,y::ys=>(f x y).bind λp=>(uJ f xs ys).map λq=>p && q
 | _,_=>some false
inductive Sh
 | non
 | bl (b:Bool)
 | int (i:Int)
 | str (x:Str)
 | tup (xs:ae)
 | lst
abbrev MH (S:iC):A->Option Sh
 | .non=>some .non
 | .bl b=>some (.bl b)
 | .int i=>some (.int i)
 | .str x=>some (.str x)
 | .tup xs=>some (.tup xs)
 | .ref i=>(iw S i).map λ_=>.lst
 | _=>none
abbrev KG (f:A->A->bn):Sh->Sh->bn
 | .non,.non=>some true
 | .bl x,.bl y=>some (x == y)
 | .bl x,.int y=>some ((if x then 1 else 0) == y)
 | .int x,.bl y=>some (x == (if y then 1 else 0))
 | .int x,.int y=>some (x == y)
 | .str x,.str y=>some (x == y)
 | .tup xs,.tup ys=>uJ f xs ys
 | .lst,.lst=>none
 | _,_=>some false
abbrev vV (S:iC):Nat->A->A->bn
 | 0,_,_=>none
 | n+1,a,b=>match a,b with
  | .ref i,.ref j=>(iw S i).bind λxs=>(iw S j).bind λys=>uJ (vV S n) xs ys
  | _,_=>(MH S a).bind λx=>(MH S b).bind λy=>KG (vV S n) x y
section
variable {X:Cx}{pins:bt}{σ:L2.St}{H:Hp}{s:aE}{ρ:bd}{S:iC}
inductive KdV (s:aE):Sh->aa->Prop
 | non:KdV s .non .none
 | bl (b:Bool):KdV s (.bl b) (.bool b)
 | int (i:Int) (t:Tok):KdV s (.int i) (.int i t)
 | str (x:Str) (t:Tok):KdV s (.str x) (.str x t)
 | tup {p:aq} {us:ba} (xs:ae) (h:s.heap.IsTuple p us.toArray):KdV s (.tup xs) (.ref p)
 | lst {p:aq} {us:ba} (h:s.heap.IsList p us.toArray):KdV s .lst<|.ref p
def BI{p:aq}(h:s.heap.IsTuple p us)(h':s.heap.IsList p ws):False:=by
 obtain⟨o,e,c,_⟩:=h;obtain⟨o',d,f,_⟩:=h';rw[e]at d
 cases d
 exact absurd (c.symm.trans f) ⋯
def Be(I:Inv X pins σ H s)(R:Rel X.K ρ H S){a:A}{x:V}(j:AV X.K ρ H a x)(r:RelV x u)(e:MH S a=some h):KdV s h u:=by
 cases j with
 | non=>cases e;cases(show u=Value.none from r);exact .non
 | bl b=>cases e;cases(show u=Value.bool b from r);exact .bl b
 | int i=>cases e;obtain⟨t,rfl⟩:∃t,u=Value.int i t:=r;exact .int i t
 | str i=>cases e;obtain⟨t,rfl⟩:∃t,u=Value.str i t:=r;exact .str i t
 | tup h1 r1=>cases e;cases(show u=Value.ref _ from r);obtain⟨us,_,p,_⟩:=I.tuple<|lW.of h1;exact .tup _ p
 | ref h1=>
  obtain⟨xs,e1,rfl⟩:=bh.mp e
  cases(show u=Value.ref _ from r)
  obtain⟨f,d,r1⟩:=R.lst h1<|iK e1;obtain⟨us,_,p,_⟩:=I.list<|jR.of d;exact .lst p.isList
 | _=>cases e
abbrev Al (B:aC)(s:aE)(u v:aa)(k:Bool):Prop:=SeqAt.RcAt B s u v k/\SeqAt.EqAt B s u v k/\SeqAt.RcNeAt B s u v (!k)
def PB{B:aC}(J:B.units<cLine){f:A->A->bn}{v:aa}{k:Bool}(d:KdV s h u)(d':KdV s h' v)(L:∀xs ys,h=.tup xs->h'≠.tup ys)(e:KG f h h'=some k):Al B s u v k:=by
 cases d with
 | non=>cases d' with
  | non=>cases e;exact⟨.none_none,.same _,.none_none⟩
  | bl b=>cases e;exact⟨.none_bool _,.none_bool _,.none_bool _⟩
  | int i t=>cases e;exact⟨.none_int _ _,.none_int _ _,.none_int _ _⟩
  | str x t=>cases e;exact⟨.none_str _ _,.none_str _ _,.none_str _ _⟩
  | tup xs p=>cases e;exact⟨.none_tuple p J,.none_tuple p J,.none_tuple p J⟩
  | lst p=>cases e;exact⟨.none_list p J,.none_list p J,.none_list p J⟩
 | bl c=>cases d' with
  | non=>cases e;exact⟨.bool_none _,.bool_none _,.bool_none _⟩
  | bl b=>cases e;exact⟨.bool_bool _ _,.bool_bool _ _,.bool_bool _ _⟩
  | int i t=>cases e;exact⟨.bool_int _ _ _,.bool_int _ _ _,.bool_int _ _ _⟩
  | str x t=>cases e;exact⟨.bool_str _ _ _,.bool_str _ _ _,.bool_str _ _ _⟩
  | tup xs p=>cases e;exact⟨.bool_tuple _ p J,.bool_tuple _ p J,.bool_tuple _ p J⟩
  | lst p=>cases e;exact⟨.bool_list _ p J,.bool_list _ p J,.bool_list _ p J⟩
 | int c j=>cases d' with
  | non=>cases e;exact⟨.int_none _ _,.int_none _ _,.int_none _ _⟩
  | bl b=>cases e;exact⟨.int_bool _ _ _,.int_bool _ _ _,.int_bool _ _ _⟩
  | int i t=>cases e;exact⟨.int_int _ _ _ _,.int_int _ _ _ _,.int_int _ _ _ _⟩
  | str x t=>cases e;exact⟨.int_str _ _ _ _,.int_str _ _ _ _,.int_str _ _ _ _⟩
  | tup xs p=>cases e;exact⟨.int_tuple _ _ p J,.int_tuple _ _ p J,.int_tuple _ _ p J⟩
  | lst p=>cases e;exact⟨.int_list _ _ p J,.int_list _ _ p J,.int_list _ _ p J⟩
 | str c j=>cases d' with
  | non=>cases e;exact⟨.str_none _ _,.str_none _ _,.str_none _ _⟩
  | bl b=>cases e;exact⟨.str_bool _ _ _,.str_bool _ _ _,.str_bool _ _ _⟩
  | int i t=>cases e;exact⟨.str_int _ _ _ _,.str_int _ _ _ _,.str_int _ _ _ _⟩
  | str x t=>cases e;exact⟨.str_str _ _ _ _,.str_str _ _ _ _,.str_str _ _ _ _⟩
  | tup xs p=>cases e;exact⟨.str_tuple _ _ p J,.str_tuple _ _ p J,.str_tuple _ _ p J⟩
  | lst p=>cases e;exact⟨.str_list _ _ p J,.str_list _ _ p J,.str_list _ _ p J⟩
 | tup zs g=>cases d' with
  | non=>cases e;exact⟨.tuple_none g J,.tuple_none g J,.tuple_none g J⟩
  | bl b=>cases e;exact⟨.tuple_bool _ g J,.tuple_bool _ g J,.tuple_bool _ g J⟩
  | int i t=>cases e;exact⟨.tuple_int _ _ g J,.tuple_int _ _ g J,.tuple_int _ _ g J⟩
  | str x t=>cases e;exact⟨.tuple_str _ _ g J,.tuple_str _ _ g J,.tuple_str _ _ g J⟩
  | tup xs p=>exact absurd rfl (L _ _ rfl)
  | lst p=>cases e;exact⟨.tuple_list g p J,.of_refs (λz=>by subst z;exact BI g p)<|.tuple_list g p J,.tuple_list g p J⟩
 | lst g=>cases d' with
  | non=>cases e;exact⟨.list_none g J,.list_none g J,.list_none g J⟩
  | bl b=>cases e;exact⟨.list_bool _ g J,.list_bool _ g J,.list_bool _ g J⟩
  | int i t=>cases e;exact⟨.list_int _ _ g J,.list_int _ _ g J,.list_int _ _ g J⟩
  | str x t=>cases e;exact⟨.list_str _ _ g J,.list_str _ _ g J,.list_str _ _ g J⟩
  | tup xs p=>cases e;exact⟨.list_tuple g p J,.of_refs (λz=>by subst z;exact BI p g)<|.list_tuple g p J,.list_tuple g p J⟩
  | lst p=>cases e
def wZ{a:A}{x:V}(h:AV X.K ρ H a x)(e:MH S a=some (.tup xs)):a=.tup xs/\∃p vs,x=.ref p/\H p=some (.tup vs)/\AVs X.K ρ H xs vs:=by
 cases h with
 | tup h r=>cases e;exact⟨rfl,_,_,rfl,h,r⟩
 | ref h=>obtain⟨_,_,z⟩:=bh.mp e;cases z
 | _=>cases e
def wK{i:Nat}{x:V}(h:AV X.K ρ H (.ref i) x):∃p,x=.ref p/\ρ[i]?=some p:=by
 cases h with
 | ref h=>exact⟨_,rfl,h⟩
def Gz{a:A}(e:MH S a=some .lst):∃i,a=.ref i:=by
 cases a with
 | ref i=>exact⟨i,rfl⟩
 | _=>cases e
def GJ{n:Nat}{a:A}{k:Bool}(e:vV S (n+1) a b=some k):(∃i j xs ys,a=.ref i/\b=.ref j/\iw S i=some xs/\iw S j=some ys/\uJ (vV S n) xs ys=some k)\/(∃h h',MH S a=some h/\MH S b=some h'/\KG (vV S n) h h'=some k/\(h=.lst->h'≠.lst)):=by
 unfold vV at e;split at e
 ·obtain⟨xs,e1,e⟩:=bP.mp e;obtain⟨ys,e2,e⟩:=bP.mp e;exact .inl ⟨_,_,xs,ys,rfl,rfl,e1,e2,e⟩
 ·rename_i d;obtain⟨h,e1,e⟩:=bP.mp e;obtain⟨h',e2,e⟩:=bP.mp e;refine .inr ⟨h,h',e1,e2,e,λg f=>?_⟩;subst g f;obtain⟨i,rfl⟩:=Gz e1;obtain⟨j,rfl⟩:=Gz e2;exact d i j rfl rfl
def Ja{f:A->A->bn}{k:Bool}(d:KdV s h u)(d':KdV s h' u)(j:∀xs ys,h=.tup xs->h'≠.tup ys)(e:KG f h h'=some k):k=true:=by
 cases d with
 | non=>cases d';exact(aV e).symm
 | bl b=>cases d';exact(aV e).symm.trans (cA b)
 | int b=>cases d';exact(aV e).symm.trans (cA b)
 | str b=>cases d';exact(aV e).symm.trans (cA b)
 | tup xs p=>cases d' with
  | tup=>exact absurd rfl (j _ _ rfl)
  | lst q=>exact(BI p q).elim
 | lst p=>cases d' with
  | tup _ q=>exact(BI q p).elim
  | lst q=>cases e
def zA{f:A->A->bn}(hf:∀a b x u k,AV X.K ρ H a x->AV X.K ρ H b x->RelV x u->f a b=some k->k=true):∀{xs ys:ae}{vs:List V}{us:ba}{k:Bool},AVs X.K ρ H xs vs->AVs X.K ρ H ys vs->Vals vs us->uJ f xs ys=some k->k=true:=by
 intro xs ys vs us k h1 h2 q e
 induction q generalizing xs ys k with
 | nil=>cases h1;cases h2;exact(aV e).symm
 | cons m _ j=>
  cases h1 with
  | cons h t=>cases h2 with
   | cons h' d=>
    obtain⟨p,e1,e⟩:=bP.mp e;obtain⟨q,e2,g⟩:=bh.mp e;rw[<- g,hf _ _ _ _ p h h' m e1,j t d e2];rfl
def CO(h h':Sh):(∃xs ys,h=.tup xs/\h'=.tup ys)\/(∀xs ys,h=.tup xs->h'≠.tup ys):=by
 cases h with
 | tup xs=>cases h' with
  | tup ys=>exact .inl ⟨xs,ys,rfl,rfl⟩
  | _=>exact .inr λ_ _ _ z=>nomatch z
 | _=>exact .inr λ_ _ z=>nomatch z
theorem xG(I:Inv X pins σ H s)(R:Rel X.K ρ H S):∀(n:Nat) (a b:A) (x:V) (u:aa) (k:Bool),AV X.K ρ H a x->AV X.K ρ H b x->RelV x u->vV S n a b=some k->k=true
 | 0,_,_,_,_,_,_,_,_,e=>nomatch e
 | n+1,a,b,x,u,k,ha,hb,ru,e=>by
  rcases GJ e with⟨i,j,xs,ys,rfl,rfl,e1,e2,e⟩|⟨h,h',e1,e2,e,_⟩
  ·obtain⟨p,rfl,h1⟩:=wK ha;obtain⟨q,z,h2⟩:=wK hb
   cases z
   obtain⟨g,d,r1⟩:=R.lst h1<|iK e1;obtain⟨m,f,r2⟩:=R.lst h2<|iK e2;rw[d]at f
   cases f
   obtain⟨us,q,_⟩:=I.list<|jR.of d;exact zA (λa b x u k=>xG I R n a b x u k) r1 r2 q e
  ·rcases CO h h' with⟨xs,ys,rfl,rfl⟩|t
   ·obtain⟨rfl,p,g,rfl,d,r1⟩:=wZ ha e1;obtain⟨rfl,q,m,z,f,r2⟩:=wZ hb e2
    cases z
    have:=I.vR (lW.of d)<|lW.of f;subst this;obtain⟨us,q,_⟩:=I.tuple<|lW.of d;exact zA (λa b x u k=>xG I R n a b x u k) r1 r2 q e
   ·exact Ja (Be I R ha ru e1) (Be I R hb ru e2) t e
abbrev vm (f:A->A->bn)(xs ys:ae)(j:Nat):Bool:=match xs[j]?,ys[j]? with
 | some x,some y=>(f x y).getD true
 | _,_=>true
theorem tY{f:A->A->bn}:∀{xs ys:ae}{k:Bool},uJ f xs ys=some k->k=((List.range<|min xs.length ys.length).all (vm f xs ys) && xs.length == ys.length)/\∀j x y,xs[j]?=some x->ys[j]?=some y->f x y=some (vm f xs ys j)
 | [],[],k,e=>⟨(aV e).symm,λj x y h=>by simp at h⟩
 | [],_::_,k,e=>⟨(aV e).symm,λj x y h=>by simp at h⟩
 | _::_,[],k,e=>⟨(aV e).symm,λj x y _ h=>by simp at h⟩
 | x::xs,y::ys,k,e=>by
  unfold uJ at e
  cases e1:f x y with
  | none=>rw[e1]at e;cases e
  | some p=>
   rw[e1]at e;obtain⟨q,e2,m⟩:=bh.mp e;obtain⟨h1,h2⟩:=tY e2;have g:vm f (x::xs) (y::ys) 0=p:=by simp[vm,e1]
   have ps:∀j,vm f (x::xs) (y::ys) (j+1)=vm f xs ys j:=λj=>by simp[vm]
   refine⟨?_,λj a b d hb=>?_⟩
   ·rw[<- m,h1,bz,bz,Nat.succ_min_succ,List.range_succ_eq_map,all_cons,List.all_map,g];have:(vm f (x::xs) (y::ys) ∘ Nat.succ)=vm f xs ys:=funext ps;rw[this,Bool.and_assoc];simp
   ·cases j with
    | zero=>
     simp at d hb;subst d hb;rw[g];exact e1
    | succ j=>rw[ps];exact h2 j a b (by simpa using d)<|by simpa using hb
def ud{f:A->A->bn}(hf:∀a b x y u v k,AV X.K ρ H a x->AV X.K ρ H b y->RelV x u->RelV y v->f a b=some k->SeqAt.EqAt B s u v k){us ts:ba}{k:Bool}
  (r1:AVs X.K ρ H xs vs) (r2:AVs X.K ρ H ys ws) (U:Vals vs us) (Z:Vals ws ts) (e:uJ f xs ys=some k):∀j (h1:j<us.toArray.size) (h2:j<ts.toArray.size),SeqAt.EqAt B s us.toArray[j] ts.toArray[j] (vm f xs ys j):=by
 intro j h1 h2;have N:=r1.length;have O:=r2.length;have L:=U.length;have M:=Z.length;have hx:j<xs.length:=by simp at h1;lia
 have hy:j<ys.length:=by simp at h2;lia
 have e1:xs[j]?=some xs[j]:=aH hx;have e2:ys[j]?=some ys[j]:=aH hy;obtain⟨x,ex,G⟩:=r1.get e1;obtain⟨y,d,F⟩:=r2.get e2;obtain⟨u,m,z⟩:=U.get ex;obtain⟨t,C,rt⟩:=Z.get d;have J:us.toArray[j]=u:=by
  have:us[j]?=some us.toArray[j]:=by simp at h1;simp[h1]
  rw[m]at this;exact(aV this).symm
 have g:ts.toArray[j]=t:=by
  have:ts[j]?=some ts.toArray[j]:=by simp at h2;simp[h2]
  rw[C]at this;exact(aV this).symm
 rw[J,g];exact hf _ _ x y u t _ G F z rt<|(tY e).2 j _ _ e1 e2
def in1_units(B:aC):B.in1.units=B.units+1:=rfl
theorem BN(I:Inv X pins σ H s)(R:Rel X.K ρ H S):∀(n:Nat) (B:aC) (a b:A) (x y:V) (u v:aa) (k:Bool),B.units+n<cLine->AV X.K ρ H a x->AV X.K ρ H b y->RelV x u->RelV y v->vV S n a b=some k->Al B s u v k
 | 0,_,_,_,_,_,_,_,_,_,_,_,_,_,e=>nomatch e
 | n+1,B,a,b,x,y,u,v,k,hu,ha,hb,rx,ry,e=>by
  have f:B.units<cLine:=()
  have d:∀a b x y u v k,AV X.K ρ H a x->AV X.K ρ H b y->RelV x u->RelV y v->vV S n a b=some k->SeqAt.EqAt B.in1 s u v k:=λa b x y u v k h1 h2 J L Y=>(BN I R n B.in1 a b x y u v k (by rw[in1_units];lia) h1 h2 J L Y).2.1;have same:=λ(z:y=x)=>xG I R (n+1) a b x u k ha (z ▸ hb) rx e;have m:∀{p q:aq},x=.ref p->y=.ref q->u=.ref p->v=.ref q->SeqAt.RcAt B s u v k->SeqAt.EqAt B s u v k:=λ{p q} g C z3 z4 h=>by
   subst z3 z4;by_cases hp:p=q
   ·subst hp;rw[same<|C.trans g.symm];exact .same _
   ·exact .of_refs hp h
  rcases GJ e with⟨i,j,xs,ys,rfl,rfl,e1,e2,e⟩|⟨h,h',e1,e2,e,_⟩
  ·obtain⟨p,rfl,h1⟩:=wK ha;obtain⟨q,rfl,h2⟩:=wK hb;obtain⟨P,J,r1⟩:=R.lst h1<|iK e1;obtain⟨U,L,r2⟩:=R.lst h2<|iK e2;obtain⟨us,F,p1,_⟩:=I.list<|jR.of J;obtain⟨ts,t,p2,_⟩:=I.list<|jR.of L;have M:=m rfl rfl rx ry
   cases(show u=Value.ref p from rx)
   cases(show v=Value.ref q from ry)
   have W:=r1.length;have l2:=r2.length;have O:=F.length;have l4:=t.length;have ek:=(tY e).1;by_cases N:xs.length=ys.length
   ·rw[<- N,Nat.min_self,cA,Bool.and_true]at ek;have G:us.toArray.size=ts.toArray.size:=by simp;lia
    have g:=SeqAt.RcAt.lists p1.isList p2.isList G f<|ud d r1 r2 F t e;have C:=SeqAt.RcNeAt.lists p1.isList p2.isList G f<|ud d r1 r2 F t e;rw[aW,<- O,<- W,<- ek]at g C;exact⟨g,M g,C⟩
   ·have:(xs.length == ys.length)=false:=by simpa using N
    rw[this,Bool.and_false]at ek;subst ek;have G:(us.toArray.size != ts.toArray.size)=true:=by simp;lia
    have g:=SeqAt.RcAt.lists_lengths p1.isList p2.isList G f;exact⟨g,M g,SeqAt.RcNeAt.lists_lengths p1.isList p2.isList G f⟩
  ·rcases CO h h' with⟨xs,ys,rfl,rfl⟩|Z
   ·obtain⟨rfl,p,P,rfl,J,r1⟩:=wZ ha e1;obtain⟨rfl,q,U,rfl,L,r2⟩:=wZ hb e2;have M:=m rfl rfl rx ry
    cases(show u=Value.ref p from rx)
    cases(show v=Value.ref q from ry)
    obtain⟨us,F,p1,_⟩:=I.tuple<|lW.of J;obtain⟨ts,t,p2,_⟩:=I.tuple<|lW.of L;have ek:=(tY e).1;have g:=SeqAt.RcAt.tuples p1 p2 f<|ud d r1 r2 F t e;have C:=SeqAt.RcNeAt.tuples p1 p2 f<|ud d r1 r2 F t e;rw[aW,aW,<- F.length,<- t.length,<- r1.length,<- r2.length,<- ek]at g C;exact⟨g,M g,C⟩
   ·exact PB f (Be I R ha rx e1) (Be I R hb ry e2) Z e
end
section
variable {X:Cx}
abbrev uf (j:Bool)(a b:A)(S:iC):R A:=opt (vV S 12 a b) λk=>.ok (.bl<|if j then !k else k) S
def DM(j:X.A.units+64<cLine):lV X (compareOp .Eq) (r2 X<|uf false):=λpins s σ H x y v u Q I rx ry h9=>by
 x_go;obtain⟨k,e,h⟩:=iF h;exact(BN I R 12 X.A a b x y v u k (by omega) va vb rx ry e).1 _ _ _ _ ⟨.bl _,H,I,rfl,h _ _ _ .refl R<|.bl _⟩
def FE(j:X.A.units+64<cLine):lV X (compareOp .NotEq) (r2 X<|uf true):=λpins s σ H x y v u Q I rx ry h9=>by
 x_go;obtain⟨k,e,h⟩:=iF h;exact(BN I R 12 X.A a b x y v u k (by omega) va vb rx ry e).2.2 _ _ _ _ ⟨.bl _,H,I,rfl,h _ _ _ .refl R<|.bl _⟩
end
section
variable {X:Cx}{pos:Pos}{a b:aF}
meta abbrev Pt:=ae->iC->R (bj)
abbrev x_:Pt:=λ_ S=>.ok none S
abbrev zo (c:Ex):Pt:=λτ S=>(c τ S).bind λa S1=>match a with
 | .int i=>.ok (some i) S1
 | _=>.no
abbrev tO (X:Cx)(c:Pt):TO:=λσ H Q=>∃ρ S τ,Rel X.K ρ H S/\SR X.K ρ H τ σ/\(c τ S).post (λo d=>∀ρ' H',Ext ρ ρ' H H'->Rel X.K ρ' H' d->Q o H') (XE X ρ H)
abbrev AO (X:Cx)(e:Option aF)(c:Pt):Prop:=PO X e<|tO X c
def wM:AO X none x_:=λpins s σ H Q I ⟨ρ,S,τ,R,r,h⟩=>KN pins s σ H Q I<|h ρ H .refl R
def wH{c:Ex}(j:AE X a c):AO X (some a) (zo c):=λpins s σ H Q I ⟨ρ,S,τ,R,r,h⟩=>Jk j pins s σ H Q I ⟨ρ,S,τ,R,r,iz (iD h) .refl λx S1 h1 ρ1 H1 v e1 d f=>by
 cases f<;>first|exact h1.elim|exact⟨_,rfl,h1 ρ1 H1 e1 d⟩⟩
abbrev yG (xs:ae)(lo hi:bj):ae:=(xs.drop<|HT.kO xs.length 0 lo).take<|HT.kO xs.length xs.length hi-HT.kO xs.length 0 lo
def AVs.cut{K:aA}{H:Hp}(r:AVs K ρ H xs vs)(lo hi:bj):AVs K ρ H (yG xs lo hi) (yS vs lo hi):=by
 unfold yG yS;rw[r.length];exact(r.drop _).take _
abbrev Ou (a:A)(lo hi:bj)(S:iC):R A:=match a with
 | .ref n=>opt (iw S n) λxs=>.ok (.ref S.length) (S++[.lst<|yG xs lo hi])
 | .frz xs=>.ok (.ref S.length) (S++[.lst<|yG xs lo hi])
 | .tup xs=>gd (¬(HT.kO xs.length 0 lo=0/\HT.kO xs.length xs.length hi=xs.length)) (.ok (.tup<|yG xs lo hi) S)
 | _=>.no
abbrev Qi (c:Ex)(lo hi:Pt):Ex:=λτ S=>(c τ S).bind λa S1=>(lo τ S1).bind λl S2=>(hi τ S2).bind λu S3=>Ou a l u S3
abbrev rS (X:Cx):V->bj->bj->Hp->VK->Prop:=λx lo hi H Q=>∃ρ S a,Rel X.K ρ H S/\AV X.K ρ H a x/\(Ou a lo hi S).post (tM X ρ H Q) (XE X ρ H)
def Mw:Qu X (rS X):=λpins s σ H x v vl f lo hi g Q I rx hs k j h9=>by
 obtain⟨ρ,S,a,R,va,h⟩:=h9
 cases va with
 | @tup p xs d h1 r1=>
  obtain⟨hc,h⟩:=iY h;exact NH pins s σ H _ v vl f lo hi g Q I rx hs k j ⟨p,d,rfl,(lW.of h1),by rw[<- r1.length];exact hc,tX R (r1.cut lo hi) .refl h⟩
 | @frz p xs d h1 r1=>exact Bk pins s σ H _ v vl f lo hi g Q I rx hs k j ⟨p,d,rfl,h1.J0,ku R (r1.cut lo hi) .refl h⟩
 | @ref p n hp=>
  gn_on;obtain⟨d,h1,r1⟩:=R.lst hp<|iK hn;exact Bk pins s σ H _ v vl f lo hi g Q I rx hs k j ⟨p,d,rfl,jR.of h1,ku R (r1.cut lo hi) .refl h⟩
 | _=>exact h.elim
def Hu{lo hi:Option aF}{c:Ex}{J ch:Pt}(L:AE X e c)(M:AO X lo J)(hh:AO X hi ch):AE X (.Subscript e (.Slice lo hi none p2) pos) (Qi c J ch):=PE.imp (Gx Mw L M hh) λσ H Q h9=>by
 z_go;refine⟨ρ,S,τ,R,r,iz (iD h) .refl λa S1 h1 ρ1 H1 x e1 g m=>⟨ρ1,S1,τ,g,r.ext e1,iz (iD h1) e1 λl S2 h2 f H2 e2 R2=>⟨f,S2,τ,R2,r.ext<|e1.trans e2,iz (iD h2) (e1.trans e2) λu S3 k ρ3 t d j=>?_⟩⟩⟩;exact⟨ρ3,S3,a,j,m.ext<|e2.trans d,iz k (e1.trans<|e2.trans d) λ_ _ z=>z.ext<|e1.trans<|e2.trans d⟩
abbrev Hw (a:A)(S:iC):R A:=match a with
 | .ref n=>opt (iw S n) λxs=>.ok (.ref S.length) (S++[.lst xs.reverse])
 | .tup xs=>.ok (.tup xs.reverse) S
 | _=>.no
def NX{up cp:Pos}{c:Ex}(j:AE X e c):AE X (.Subscript e (.Slice none none (some<|.UnaryOp .USub (.Constant (.int 1) kk cp) up) p2) pos) (Ln Hw c):=λpins s σ H Q I h9=>by
 z_go;have hb:=iD h
 cases hc:c τ S with
 | no=>rw[hc]at hb;exact hb.elim
 | ex x S1=>
  rw[hc]at hb;exact CH j pins s σ H Q I ⟨ρ,S,τ,R,r,by rw[hc];exact hb⟩
 | ok a S1=>
  rw[hc]at hb;have hb:(Hw a S1).post (tM X ρ H Q) (XE X ρ H):=hb
  cases a with
  | tup xs=>
   refine CH j pins s σ H Q I ⟨ρ,S,τ,R,r,?_⟩;rw[hc];intro ρ1 H1 x e1 d f
   cases f with
   | tup h1 r1=>exact⟨_,_,rfl,(lW.of h1),tX d r1.reverse e1 hb⟩
  | ref n=>
   refine KO j pins s σ H Q I ⟨ρ,S,τ,R,r,?_⟩;rw[hc];intro ρ1 H1 x e1 d f;obtain⟨xs,hn,h⟩:=iF hb
   cases f with
   | ref hp=>
    obtain⟨g,h1,r1⟩:=d.lst hp<|iK hn;exact⟨_,_,rfl,jR.of h1,ku d r1.reverse e1 h⟩
  | _=>exact hb.elim
abbrev iT (f:ae->iC->R A)(d:n6):Ex:=λτ S=>(d τ S).bind λg S1=>f g S1
def yt{f:ae->iC->R A}{d:n6}{H:Hp}{Q:VK}(h:tE X (iT f d) σ H Q):RX (rN X f) (tL X d) σ H Q:=by
 kl_no;exact⟨ρ,S,τ,R,r,iz (iD h) .refl λk S1 h1 ρ1 H1 m e1 j g=>⟨ρ1,S1,k,j,g,iz h1 e1 λ_ _ z=>z.ext e1⟩⟩
variable {x:Str}{p:Pos}{e:aF}{es:List aF}{id T:String}{f:ae->iC->R A}{d:n6}
def iN(hc:jc X (.builtin id)<|rN X f)(hm:X.mg x=none)(hv:bootBuiltins x=some (.builtin id))(L:AL X (e::es) d)(hg:Gl X x<|>ε)(hn:x ≠ "__name__"<|>δ)(j:(x == ("__debug__" : Str))=false<|>δ)
  (M:starEach (e::es) X.env=(false,eval e X.env)::starEach es X.env<|>ε) (J:((backTo pos<|starEach es X.env).any (·.1)=false)<|>ε):AE X (.Call (.Name x p) (e::es) [] pos) (iT f d):=
 PE.imp (IB hc hg hm hv L hn j M J) λ_ _ _ h=>yt h
def pH(hc:jc X (.type T)<|rN X f)(hm:X.mg x=none)(hv:bootBuiltins x=some (.type T))(L:AL X (e::es) d)(hg:Gl X x<|>ε)(hn:x ≠ "__name__"<|>δ)(j:(x == ("__debug__" : Str))=false<|>δ)
  (M:starEach (e::es) X.env=(false,eval e X.env)::starEach es X.env<|>ε) (J:((backTo pos<|starEach es X.env).any (·.1)=false)<|>ε):AE X (.Call (.Name x p) (e::es) [] pos) (iT f d):=
 PE.imp (Ec hc hg hm hv L hn j M J) λ_ _ _ h=>yt h
def Cp(hm:X.mg x=none)(hv:bootBuiltins x=some (.type T))(hg:Gl X x<|>ε)(hn:x ≠ "__name__"<|>δ)(j:(x == ("__debug__" : Str))=false<|>δ):AE X (.Name x pos) (eC<|.ty T):=
 PE.imp (KQ (v:=.ty T) hg hm hv rfl hn j) λσ H Q ⟨ρ,S,τ,R,r,h⟩=>h ρ H _ .refl R<|.ty T
abbrev A.seq (S:iC):A->Option (ae)
 | .tup xs=>some xs
 | .frz xs=>some xs
 | .ref n=>iw S n
 | _=>none
def E9{K:aA}{H:Hp}{x:A}{v:V}(R:Rel K ρ H S)(h:AV K ρ H x v)(e:x.seq S=some xs):∃p vs,v=.ref p/\(jR K H p vs\/lW K H p vs)/\AVs K ρ H xs vs:=by
 cases h with
 | tup h r=>cases aV e;exact⟨_,_,rfl,.inr<|lW.of h,r⟩
 | frz h r=>cases aV e;exact⟨_,_,rfl,.inl h.J0,r⟩
 | ref h=>
  obtain⟨vs,h1,r1⟩:=R.lst h<|iK e;exact⟨_,vs,rfl,.inl<|jR.of h1,r1⟩
 | _=>cases e
def NI{K:aA}{H:Hp}{x:A}(h:AVs K ρ H [x] vs):∃v,vs=[v]/\AV K ρ H x v:=by
 cases h with
 | cons h t=>cases t;exact⟨_,rfl,h⟩
def PK{K:aA}{H:Hp}{x:A}(h:AVs K ρ H [x,y] vs):∃v w,vs=[v,w]/\AV K ρ H x v/\AV K ρ H y w:=by
 cases h with
 | cons h t=>obtain⟨w,rfl,h'⟩:=NI t;exact⟨_,_,rfl,h,h'⟩
abbrev f1 (g:A->iC->R A):ae->iC->R A:=λd S=>match d with
 | [x]=>g x S
 | _=>.no
abbrev f2 (g:A->A->iC->R A):ae->iC->R A:=λd S=>match d with
 | [x,y]=>g x y S
 | _=>.no
def Js{g:A->iC->R A}{P:A->iC->Prop}{E:Str->iC->Prop}(h:(f1 g as S).post P E):∃x,as=[x]/\(g x S).post P E:=by
 match as,h with
 | [],h=>exact h.elim
 | [x],h=>exact⟨x,rfl,h⟩
 | _::_::_,h=>exact h.elim
def JV{g:A->A->iC->R A}{P:A->iC->Prop}{E:Str->iC->Prop}(h:(f2 g as S).post P E):∃x y,as=[x,y]/\(g x y S).post P E:=by
 match as,h with
 | [],h=>exact h.elim
 | [_],h=>exact h.elim
 | [x,y],h=>exact⟨x,y,rfl,h⟩
 | _::_::_::_,h=>exact h.elim
def Ly{g:A->iC->R A}{H:Hp}{Q:VK}(h:rN X (f1 g) vs H Q):∃v,vs=[v]/\∃ρ S x,Rel X.K ρ H S/\AV X.K ρ H x v/\(g x S).post (tM X ρ H Q) (XE X ρ H):=by
 obtain⟨ρ,S,d,R,v,h⟩:=h;obtain⟨x,rfl,h⟩:=Js h;obtain⟨w,rfl,hv⟩:=NI v;exact⟨w,rfl,ρ,S,x,R,hv,h⟩
def Qz{g:A->A->iC->R A}{H:Hp}{Q:VK}(h:rN X (f2 g) vs H Q):∃v w,vs=[v,w]/\∃ρ S x y,Rel X.K ρ H S/\AV X.K ρ H x v/\AV X.K ρ H y w/\(g x y S).post (tM X ρ H Q) (XE X ρ H):=by
 obtain⟨ρ,S,j,R,v,h⟩:=h;obtain⟨x,y,rfl,h⟩:=JV h;obtain⟨w,f,rfl,hv,d⟩:=PK v;exact⟨w,f,rfl,ρ,S,x,y,R,hv,d,h⟩
abbrev kP (x:A)(S:iC):R A:=match x with
 | .str x=>gd (x.length<=sizeLine) (.ok (.int x.length) S)
 | .tup xs=>.ok (.int xs.length) S
 | .frz xs=>.ok (.int xs.length) S
 | .ref n=>opt (iw S n) λxs=>.ok (.int xs.length) S
 | _=>.no
def kR:jc X (.builtin "len") (rN X<|f1 kP):=jc.imp Ga λf H Q h0=>by
 kcf_m;clear h0
 cases hv with
 | str z=>
  obtain⟨d,h⟩:=iY h;exact⟨_,_,rfl,⟨d,rfl⟩,h _ _ _ .refl R<|.int _⟩
 | @tup p xs us h1 r=>exact⟨_,us.length,rfl,.inr ⟨us,(lW.of h1),rfl⟩,by rw[<- r.length];exact h _ _ _ .refl R<|.int _⟩
 | @frz p xs us h1 r=>exact⟨_,us.length,rfl,.inl ⟨us,h1.J0,rfl⟩,by rw[<- r.length];exact h _ _ _ .refl R<|.int _⟩
 | ref hp=>
  gn_on;obtain⟨us,h1,r⟩:=R.lst hp<|iK hn;exact⟨_,us.length,rfl,.inl ⟨us,jR.of h1,rfl⟩,by rw[<- r.length];exact h _ _ _ .refl R<|.int _⟩
 | _=>exact h.elim
abbrev RC (x:A)(S:iC):R A:=match x with
 | .int i=>.ok (.int<|if i<0 then -i else i) S
 | _=>.no
abbrev A3 (x y:A)(S:iC):R A:=match x,y with
 | .int i,.int j=>.ok (.int<|if j>i then j else i) S
 | _,_=>.no
def GW(hc:X.calm=true):jc X (.builtin "max") (rN X<|f2 A3):=jc.imp (Di hc) λf H Q h0=>by
 obtain⟨w,g,rfl,ρ,S,x,y,R,hv,d,h⟩:=Qz h0;clear h0
 cases hv<;>first|exact h.elim|(cases d<;>first|exact h.elim|exact⟨_,_,rfl,h _ _ _ .refl R<|.int _⟩)
abbrev EZ (x y:A)(S:iC):R A:=match x,y with
 | .int i,.int j=>.ok (.int<|if j<i then j else i) S
 | _,_=>.no
def NG(hc:X.calm=true):jc X (.builtin "min") (rN X<|f2 EZ):=jc.imp (Eg hc) λf H Q h0=>by
 obtain⟨w,g,rfl,ρ,S,x,y,R,hv,d,h⟩:=Qz h0;clear h0
 cases hv<;>first|exact h.elim|(cases d<;>first|exact h.elim|exact⟨_,_,rfl,h _ _ _ .refl R<|.int _⟩)
abbrev LR (x:A)(S:iC):R A:=match x with
 | .int i=>.ok (.int i) S
 | .bl k=>.ok (.int<|if k then 1 else 0) S
 | .str y=>opt (PySem.intText? y) λn=>gd (y.length<=640) (.ok (.int n) S)
 | _=>.no
abbrev wA (x y:A)(S:iC):R A:=match x,y with
 | .int i,.int j=>.ok (.rng i j) S
 | _,_=>.no
def GS:jc X (.type "range") (rN X<|f2 wA):=jc.imp w6 λg H Q h0=>by
 obtain⟨w,k,rfl,ρ,S,x,y,R,hv,d,h⟩:=Qz h0;clear h0
 cases hv with
 | int i=>
  cases d with
  | int j=>
   refine⟨i,j,rfl,λp hp=>?_⟩;obtain⟨ex,f⟩:=R.im (u:=.rng i j) hp;exact h ρ _ _ ex f<|.rng iW
  | _=>exact h.elim
 | _=>exact h.elim
abbrev vP (i j:Int):Prop:=(-(2 ^ 62)<=i/\i<2 ^ 62/\-(2 ^ 62)<=j/\j<2 ^ 62)/\(j-i).toNat<=1000
instance (i j:Int):Decidable (vP i j):=by unfold vP;infer_instance
abbrev pM (x:A)(S:iC):R A:=match x with
 | .rng i j=>gd (vP i j) (.ok (.ref S.length)<|S++[.lst<|(jT i j).map .int])
 | .tup xs=>.ok (.ref S.length) (S++[.lst xs])
 | .frz xs=>.ok (.ref S.length) (S++[.lst xs])
 | .ref n=>opt (iw S n) λxs=>.ok (.ref S.length) (S++[.lst xs])
 | _=>.no
def zE(hc:X.calm=true):jc X (.type "list") (rN X<|f1 pM):=λpins s σ H d us Q I rx h0=>by
 kcf_m;clear h0
 cases hv with
 | @rng p i j hp=>
  obtain⟨f,h⟩:=iY h;exact vh hc pins s σ H _ us Q I rx ⟨p,i,j,rfl,hp,f.1,f.2,ku R (pQ _) .refl h⟩
 | @tup p xs d h1 r=>exact nY pins s σ H _ us Q I rx ⟨p,d,rfl,.inr<|lW.of h1,ku R r .refl h⟩
 | @frz p xs d h1 r=>exact nY pins s σ H _ us Q I rx ⟨p,d,rfl,.inl h1.J0,ku R r .refl h⟩
 | @ref p n hp=>
  gn_on;obtain⟨d,h1,r⟩:=R.lst hp<|iK hn;exact nY pins s σ H _ us Q I rx ⟨p,d,rfl,.inl<|jR.of h1,ku R r .refl h⟩
 | _=>exact h.elim
abbrev GA (x:A)(S:iC):R A:=match x with
 | .rng i j=>gd (vP i j) (.ok (.tup<|(jT i j).map .int) S)
 | .tup xs=>.ok (.tup xs) S
 | .frz xs=>.ok (.tup xs) S
 | .ref n=>opt (iw S n) λxs=>.ok (.tup xs) S
 | _=>.no
abbrev A.KY:ae->Option (List Bool)
 | []=>some []
 | .bl b::xs=>(A.KY xs).map (b::·)
 | _=>none
theorem Fw{K:aA}{H:Hp}:∀{xs:ae}{vs:List V}{bs:List Bool},AVs K ρ H xs vs->A.KY xs=some bs->vs=bs.map V.bl
 | _,_,_,.nil,e=>by cases e;rfl
 | x::xs,_,bs,.cons h t,e=>by
  cases x with
  | bl b=>
   obtain⟨d,e1,rfl⟩:=bh.mp (show(A.KY xs).map (b::·)=some bs from e)
   cases h
   rw[Fw t e1];rfl
  | _=>cases e
abbrev Ed (x:A)(S:iC):R A:=match x with
 | .ref n=>opt (iw S n) λxs=>opt (A.KY xs) λbs=>.ok (.bl<|bs.all λb=>b) S
 | _=>.no
def BS(hc:X.calm=true):jc X (.builtin "all") (rN X<|f1 Ed):=jc.imp (D5 hc) λd H Q h0=>by
 kcf_m;clear h0
 cases hv with
 | @ref p n hp=>
  gn_on;obtain⟨bs,hb,h⟩:=iF h;obtain⟨d,h1,r⟩:=R.lst hp<|iK hn;rw[Fw r hb]at h1;exact⟨p,bs,rfl,jR.of h1,h _ _ _ .refl R<|.bl _⟩
 | _=>exact h.elim
abbrev maxOf:ag->bj
 | []=>none
 | [x]=>some x
 | x::xs=>(maxOf xs).map λm=>if m>x then m else x
theorem uY:∀{ns:ag}{m:Int},maxOf ns=some m->m∈ns/\∀a∈ns,a<=m
 | [],_,e=>nomatch e
 | [x],m,e=>by cases e;exact⟨aM,λa h=>by rw[br]at h;lia⟩
 | x::y::xs,m,e=>by
  obtain⟨m',e1,rfl⟩:=bh.mp<|show(maxOf (y::xs)).map (λm=>if m>x then m else x)=some m from e;obtain⟨h1,h2⟩:=uY e1;by_cases hx:m'>x
  ·rw[aR hx];exact⟨aN _ h1,λa h=>(a_.mp h).elim (λz=>())<|h2 a⟩
  ·rw[aU hx];exact⟨aM,λa h=>(a_.mp h).elim (λz=>()) λz=>by have:=h2 a z;lia⟩
abbrev A4 (x:A)(S:iC):R A:=match x with
 | .ref n=>opt (iw S n) λxs=>opt (A.ints xs) λd=>opt (maxOf d) λm=>.ok (.int m) S
 | _=>.no
def F9(hc:X.calm=true):jc X (.builtin "max") (rN X<|f1 A4):=jc.imp (DF hc) λf H Q h0=>by
 kcf_m;clear h0
 cases hv with
 | @ref p n hp=>
  gn_on;obtain⟨d,hb,h⟩:=iF h;obtain⟨m,hm,h⟩:=iF h;obtain⟨f,h1,r⟩:=R.lst hp<|iK hn;rw[oF r hb]at h1;obtain⟨g1,g2⟩:=uY hm;refine⟨p,d,rfl,jR.of h1,List.length_pos_of_mem g1,λM g j=>?_⟩;have:M=m:=gk (g2 M g)<|j m g1;rw[this];exact h _ _ _ .refl R<|.int _
 | _=>exact h.elim
abbrev insI (x:Int):ag->ag
 | []=>[x]
 | y::ys=>if x<=y then x::y::ys else y::insI x ys
abbrev sortI:ag->ag
 | []=>[]
 | x::xs=>insI x<|sortI xs
theorem insI_perm(x:Int):∀ys:ag,(insI x ys).Perm (x::ys)
 | []=>dU _
 | y::ys=>by
  unfold insI;by_cases h:x<=y
  ·rw[aR h]
  ·rw[aU h];exact((insI_perm x ys).cons y).trans (List.Perm.swap x y ys)
theorem sortI_perm:∀xs:ag,(sortI xs).Perm xs
 | []=>dU _
 | x::xs=>(insI_perm x<|sortI xs).trans<|(sortI_perm xs).cons x
theorem Bo(x:Int):∀ys:ag,ys.Pairwise (·<=·)->(insI x ys).Pairwise (·<=·)
 | [],_=>cW _ _
 | y::ys,h=>by
  unfold insI;obtain⟨h1,h2⟩:=bT.mp h;by_cases hx:x<=y
  ·rw[aR hx];exact bT.mpr ⟨λz d=>(a_.mp d).elim (λe=>e ▸ hx) λd=>Int.le_trans hx<|h1 z d,h⟩
  ·rw[aU hx];refine bT.mpr ⟨λz d=>?_,Bo x ys h2⟩
   rcases a_.mp ((insI_perm x ys).mem_iff.mp d)with e|d
   ·subst e;lia
   ·exact h1 z d
theorem rK:∀xs:ag,(sortI xs).Pairwise (·<=·)
 | []=>List.Pairwise.nil
 | x::xs=>Bo x _<|rK xs
abbrev uT (x:A)(S:iC):R A:=opt (x.seq S) λxs=>opt (A.ints xs) λd=>gd (d.length<64)<|.ok (.ref S.length)<|S++[.lst<|(sortI d).map .int]
def BH:jc X (.builtin "sorted") (rN X<|f1 uT):=jc.imp wW λk H Q h0=>by
 kcf_m;clear h0;gn_on;obtain⟨d,hb,h⟩:=iF h;obtain⟨j,h⟩:=iY h;obtain⟨p,us,rfl,hs,r⟩:=E9 R hv hn;rw[oF r hb]at hs;refine⟨p,d,rfl,hs,j,λl g f hp hw=>?_⟩;have:g=sortI d:=Ko (hp.trans (sortI_perm d).symm) hw<|rK d;rw[this];exact ku R (pQ _) .refl h l f
abbrev A.kd:A->iC->Option Kd
 | .non,_=>some .non
 | .bl _,_=>some .bl
 | .int _,_=>some .int
 | .str _,_=>some .str
 | .tup _,_=>some .tup
 | .ref n,S=>(iw S n).map λ_=>.lst
 | _,_=>none
def Je{K:aA}(k:Kd):PySem.W.kitOne K k.ty (.type "str")=some (decide<|k=.str):=by cases k<;>rfl
abbrev yC (k:Kd)(c:String):bn:=if c = "int" then some (decide<|k=.int\/k=.bl)else if c = "bool" then some (decide<|k=.bl)else if c = "tuple" then some (decide<|k=.tup)else if c = "list" then some (decide<|k=.lst)else if c = "str" then some (decide<|k=.str)else none
def Br{K:aA}{k:Kd}{b:Bool}(h:yC k c=some b):PySem.W.kitOne K k.ty (.type c)=some b:=by
 unfold yC at h;split at h
 ·rename_i e;subst e;rw[<- h];exact JU k
 ·split at h
  ·rename_i e;subst e;rw[<- h];exact EY k
  ·split at h
   ·rename_i e;subst e;rw[<- h];exact kit_tuple k
   ·split at h
    ·rename_i e;subst e;rw[<- h];exact Ii k
    ·split at h
     ·rename_i e;subst e;rw[<- h];exact Je k
     ·cases h
abbrev D0 (x y:A)(S:iC):R A:=match y with
 | .ty c=>opt (x.kd S) λk=>opt (yC k c) λb=>.ok (.bl b) S
 | _=>.no
def Ov{K:aA}{H:Hp}{x:A}{v:V}{k:Kd}(R:Rel K ρ H S)(h:AV K ρ H x v)(e:x.kd S=some k):(∃p vs,v=.ref p/\lW K H p vs/\k=.tup)\/MB H v k:=by
 cases h with
 | non=>cases e;exact .inr rfl
 | bl b=>cases e;exact .inr ⟨b,rfl⟩
 | int i=>cases e;exact .inr ⟨i,rfl⟩
 | str i=>cases e;exact .inr ⟨i,rfl⟩
 | tup h r=>cases e;exact .inl ⟨_,_,rfl,(lW.of h),rfl⟩
 | ref h=>
  obtain⟨xs,e1,e2⟩:=bh.mp e;obtain⟨vs,h1,_⟩:=R.lst h (iK e1)
  cases e2
  exact .inr ⟨_,vs,rfl,h1⟩
 | _=>cases e
def CP:jc X (.builtin "isinstance") (rN X<|f2 D0):=λpins s σ H g us Q I rx h0=>by
 obtain⟨w,F,rfl,ρ,S,x,y,R,hv,f,h⟩:=Qz h0;clear h0
 cases f with
 | ty c=>
  obtain⟨k,j,h⟩:=iF h;obtain⟨b,hb,d⟩:=iF h;have d:tM X ρ H Q (.bl b) S:=d;clear h
  rcases Ov R hv j with⟨p,g,rfl,t,rfl⟩|hd
  ·obtain⟨B,C,rfl,r1,r2⟩:=vals2 rx;obtain⟨m,q,⟨o,h1,h2,_⟩,_⟩:=I.tuple t
   cases(show _=Value.ref p from r1)
   cases(show _=Value.type c from r2)
   exact cy PySem.W.kitx_tuple I.xR ⟨o,h1,h2⟩ (Br hb) (λz=>nomatch z) λG=>⟨.bl b,H,I.tok _,rfl,d _ _ _ .refl R<|.bl _⟩
  ·exact yR (c:=c) pins s σ H _ us Q I rx ⟨w,_,b,rfl,hd.RL,Br hb,d _ _ _ .refl R<|.bl _⟩
 | _=>exact h.elim
end
abbrev RS.post (r:RS)(N:ae->iC->Prop)(T:A->iC->Prop)(B C:ae->iC->Prop)(E:Str->iC->Prop):Prop:=match r with
 | .nx τ S=>N τ S
 | .rt a S=>T a S
 | .bk τ S=>B τ S
 | .ct τ S=>C τ S
 | .ex c S=>E c S
 | .no=>False
abbrev RS.of {α:Type}(r:R α)(f:α->iC->RS):RS:=match r with
 | .ok a S=>f a S
 | .ex c S=>.ex c S
 | .no=>.no
def of_post{α:Type}{r:R α}{f:α->iC->RS}{N B C:ae->iC->Prop}{T:A->iC->Prop}{E:Str->iC->Prop}(h:(RS.of r f).post N T B C E):r.post (λa S=>(f a S).post N T B C E) E:=by
 cases r<;>exact h
def RS.mono{r:RS}{N B C j J L:ae->iC->Prop}{T M:A->iC->Prop}{E U:Str->iC->Prop}(h:r.post N T B C E)(hn:∀τ S,N τ S->j τ S)(Z:∀a S,T a S->M a S)(hb:∀τ S,B τ S->J τ S)(hc:∀τ S,C τ S->L τ S)(he:∀c S,E c S->U c S):r.post j M J L U:=by
 cases r with
 | nx τ S=>exact hn _ _ h
 | rt a S=>exact Z _ _ h
 | bk τ S=>exact hb _ _ h
 | ct τ S=>exact hc _ _ h
 | ex c S=>exact he _ _ h
 | no=>exact h.elim
abbrev BK (X:Cx)(ρ:bd)(H:Hp)(N:L2.St->Hp->Prop):ae->iC->Prop:=λf g=>∀ρ' H' d,Ext ρ ρ' H H'->Rel X.K ρ' H' g->SR X.K ρ' H' f d->N d H'
def BK.ext{H H':Hp}{N:L2.St->Hp->Prop}(h:BK X ρ H N τ S)(e:Ext ρ ρ' H H'):BK X ρ' H' N τ S:=λd H2 f e2=>h d H2 f<|e.trans e2
abbrev vS (X:Cx)(ρ:bd)(H:Hp)(D:Ends)(r:RS):Prop:=r.post (BK X ρ H D.nx) (tM X ρ H D.rt) (BK X ρ H D.bk) (BK X ρ H D.ct)<|XE X ρ H
def vS.ext{H H':Hp}{r:RS}(h:vS X ρ H D r)(e:Ext ρ ρ' H H'):vS X ρ' H' D r:=RS.mono h (λ_ _ z=>z.ext e) (λ_ _ z=>z.ext e) (λ_ _ z=>z.ext e) (λ_ _ z=>z.ext e) λ_ _ z=>z.ext e
abbrev tS (X:Cx)(c:Sm):TS:=λD σ H=>∃ρ S τ,Rel X.K ρ H S/\SR X.K ρ H τ σ/\vS X ρ H D (c τ S)
abbrev AS (X:Cx)(st:aG)(c:Sm):Prop:=PS X st<|tS X c
abbrev Jp (X:Cx)(j:List aG)(c:Sm):Prop:=xA X j<|tS X c
abbrev tG (X:Cx)(g:Tg):TG:=λv σ H Q=>∃ρ S τ a,Rel X.K ρ H S/\SR X.K ρ H τ σ/\AV X.K ρ H a v/\(g a τ S).post (BK X ρ H Q) (XE X ρ H)
abbrev AG (X:Cx)(e:aF)(g:Tg):Prop:=PG X e<|tG X g
meta abbrev IW:=ae->ae->iC->R (ae)
abbrev Tz (X:Cx)(g:IW):K4:=λf σ H Q=>∃ρ S τ d,Rel X.K ρ H S/\SR X.K ρ H τ σ/\AVs X.K ρ H d f/\(g d τ S).post (BK X ρ H Q) (XE X ρ H)
abbrev QA (X:Cx)(es:List aF)(g:IW):Prop:=OT X es<|Tz X g
section
variable {X:Cx}{pos:Pos}{a b e:aF}{st:aG}{rest:List aG}{c d:Sm}
def PS.imp{t t':TS}(h:PS X st t)(i:∀D σ H,t' D σ H->t D σ H):PS X st t':=λpins s σ H D I q=>h pins s σ H D I<|i D σ H q
def xA.imp{t t':TS}(h:xA X rest t)(i:∀D σ H,t' D σ H->t D σ H):xA X rest t':=λpins s σ H D I q=>h pins s σ H D I<|i D σ H q
def PG.imp{t t':TG}(h:PG X e t)(i:∀v σ H Q,t' v σ H Q->t v σ H Q):PG X e t':=λpins s σ H v u Q I r q=>h pins s σ H v u Q I r<|i _ _ _ _ q
abbrev i_ (i:Nat):Tg:=λa τ S=>.ok (τ.set i a) S
def iS{i:Nat}{x:Str}(j:X.N.Nodup)(hi:X.N[i]?=some x<|>ε)(hx:Loc X.env.scope x:=by first|exact Or.inl rfl|exact Or.inr rfl)(hf:X.fn x=true\/X.env.scope.names.lookup x=some .local<|>γ):AG X (.Name x pos) (i_ i):=
 PG.imp (xJ j hi hx hf) λv σ H Q ⟨ρ,S,τ,a,R,r,va,h⟩=>h ρ H _ .refl R<|r.set va
abbrev B3:IW:=λd τ S=>match d with
 | []=>.ok τ S
 | _=>.no
abbrev s_ (g:Tg)(gs:IW):IW:=λd τ S=>match d with
 | a::d=>(g a τ S).bind λτ1 S1=>gs d τ1 S1
 | []=>.no
def oA:QA X [] B3:=λpins s σ H f us Q I r ⟨ρ,S,τ,g,R,d,va,h⟩=>KI pins s σ H f us Q I r (by
 cases va with
 | nil=>exact⟨rfl,h ρ H σ .refl R d⟩
 | cons _ _=>exact h.elim)
def jy{g:Tg}{gs:IW}(h1:AG X e g)(h2:QA X es gs)(hs:(assignEach (e::es) X.env).map (·.2)=assign e X.env::(assignEach es X.env).map (·.2)<|>ε):QA X (e::es) (s_ g gs):=
 λpins s σ H j us Q I r ⟨ρ,S,τ,B,R,f,va,h⟩=>EF h1 h2 hs pins s σ H j us Q I r (by
  cases va with
  | nil=>exact h.elim
  | cons k hr=>exact⟨_,_,rfl,ρ,S,τ,_,R,f,k,iz (iD h) .refl λτ1 S1 h1 ρ1 H1 m e1 t d=>⟨ρ1,S1,τ1,_,t,d,hr.ext e1,iz h1 e1 λ_ _ z=>z.ext e1⟩⟩)
abbrev zH (n:Nat)(gs:IW):Tg:=λa τ S=>match a with
 | .tup xs | .ktu xs=>gd (xs.length=n) (gs xs τ S)
 | _=>.no
def qF{k n:Nat}{gs:IW}(hc:X.calm=true)(h:QA X es gs)(hn:(assignEach es X.env).length=n<|>ε)(j:(assignEach es X.env).findIdx? (·.1)=none<|>ε):AG X (.Tuple es k pos) (zH n gs):=
 PG.imp (Ny hc h hn j) λv σ H Q h9=>by
  obtain⟨ρ,S,τ,a,R,r,va,h⟩:=h9
  cases va with
  | tup h1 r1=>
   obtain⟨d,h⟩:=iY h;exact⟨_,_,rfl,lW.of h1,by rw[<- r1.length];exact d,ρ,S,τ,_,R,r,r1,h⟩
  | ktu h1 r1=>
   obtain⟨d,h⟩:=iY h;exact⟨_,_,rfl,.inr h1,by rw[<- r1.length];exact d,ρ,S,τ,_,R,r,r1,h⟩
  | _=>exact h.elim
abbrev xU (o i v:A)(S:iC):R Unit:=match o,i with
 | .ref n,.int k=>opt (iw S n) λxs=>opt (zD xs.length k) λj=>.ok Unit.unit (S.set n<|.lst<|xs.set j v)
 | _,_=>.no
abbrev Tn (X:Cx):EN:=λo i v H Q=>∃ρ S g d f,Rel X.K ρ H S/\AV X.K ρ H g o/\AV X.K ρ H d i/\AV X.K ρ H f v/\(xU g d f S).post (λ_ j=>∀ρ' H',Ext ρ ρ' H H'->Rel X.K ρ' H' j->Q H') (XE X ρ H)
def KC:Ez X (Tn X):=λpins s σ H o i v C B u Q I d z F h9=>by
 obtain⟨ρ,S,J,K,G,R,h1,h2,t,h⟩:=h9
 cases h1 with
 | @ref p n hp=>
  cases h2 with
  | int k=>
   gn_on;obtain⟨j,f,h⟩:=iF h;obtain⟨g,e,r⟩:=R.lst hp<|iK hn;obtain⟨ex,m⟩:=R.put hp (iK hn)<|r.set t j;exact set_list pins s σ H _ _ v C B u Q I d z F ⟨p,g,k,j,rfl,rfl,e,by rw[<- r.length];exact f,h _ _ ex m⟩
  | _=>exact h.elim
 | _=>exact h.elim
abbrev Oq (co j:Ex):Tg:=λa τ S=>(co τ S).bind λo S1=>(j τ S1).bind λi S2=>(xU o i a S2).bind λ_ S3=>.ok τ S3
def wG{co J:Ex}(L:AE X o co)(hi:AE X i J)
  (M:(∀v,assign (.Subscript o i pos) X.env v=(do
   let ov <- holding [v] (eval o X.env)
   let iv <- holding [v,ov] (eval i X.env)
   standAt pos
   holding [v,ov,iv] (setItem ov iv v)
   release [v,ov,iv] []))<|>ζ):AG X (.Subscript o i pos) (Oq co J):=PG.imp (FA L hi KC M) λv σ H Q h9=>by
 obtain⟨ρ,S,τ,a,R,r,va,h⟩:=h9;refine⟨ρ,S,τ,R,r,iz (iD h) .refl λo S1 h1 ρ1 H1 x e1 g z=>⟨ρ1,S1,τ,g,r.ext e1,iz (iD h1) e1 λi S2 h2 d H2 y e2 R2 j=>?_⟩⟩;refine⟨d,S2,o,i,a,R2,z.ext e2,j,va.ext<|e1.trans e2,iz (iD h2) (e1.trans e2) λ_ S3 m ρ3 t f k=>?_⟩;exact m ρ3 t σ ((e1.trans e2).trans f) k<|r.ext<|(e1.trans e2).trans f
abbrev nM:Sm:=λτ S=>.nx τ S
abbrev iZ (c d:Sm):Sm:=λτ S=>match c τ S with
 | .nx f g=>d f g
 | r=>r
def jG:Jp X [] nM:=xA.imp Jz λD σ H ⟨ρ,S,τ,R,r,h⟩=>h ρ H σ .refl R r
def Ju{H:Hp}(h:tS X (iZ c d) D σ H):PZ (tS X c) (tS X d) D σ H:=by
 kl_no;refine⟨ρ,S,τ,R,r,?_⟩;unfold iZ at h
 cases hc:c τ S with
 | nx τ1 S1=>
  rw[hc]at h;exact λρ1 H1 f e1 g r1=>⟨ρ1,S1,τ1,g,r1,vS.ext h e1⟩
 | rt a S1=>rw[hc]at h;exact h
 | bk τ1 S1=>rw[hc]at h;exact h
 | ct τ1 S1=>rw[hc]at h;exact h
 | ex x S1=>rw[hc]at h;exact h
 | no=>rw[hc]at h;exact h
def iE(h1:AS X st c)(h2:Jp X rest d):Jp X (st::rest) (iZ c d):=xA.imp (F5 h1 h2) λD σ H h=>Ju h
def iH(h1:AS X st c):Jp X [st] c:=JS h1
abbrev Me:Sm:=λτ S=>.bk τ S
abbrev ON:Sm:=λτ S=>.ct τ S
abbrev qe (e:Ex):Sm:=λτ S=>.of (e τ S) λ_ S1=>.nx τ S1
def oh{f:Ex}(j:AE X e f)(hs:swapsWith e none pos.line X.env=pure false<|>ε):AS X (.Expr e pos) (qe f):=PS.imp (Kw j hs) λD σ H ⟨ρ,S,τ,R,r,h⟩=>
 ⟨ρ,S,τ,R,r,iz (of_post h) .refl λa S1 h1 ρ1 H1 x e1 d g=>h1 ρ1 H1 σ e1 d<|r.ext e1⟩
abbrev jV (e:Ex):Sm:=λτ S=>.of (e τ S) λa S1=>.rt a S1
def ja{f:Ex}(j:AE X e f):AS X (.Return (some e) pos) (jV f):=PS.imp (Nv j) λD σ H ⟨ρ,S,τ,R,r,h⟩=>⟨ρ,S,τ,R,r,iz (of_post h) .refl λa S1 h1=>h1⟩
abbrev PL:Sm:=λτ S=>.rt .non S
abbrev vn (t:Te)(c d:Sm):Sm:=λτ S=>.of (t τ S) λb S1=>match b with|true=>c τ S1|false=>d τ S1
def lX{t:Te}(j:AT X e t)(J:Jp X ca c)(hb:Jp X cb d):AS X (.If e ca cb pos) (vn t c d):=PS.imp (OG j J hb) λD σ H h9=>by
 z_go;refine⟨ρ,S,τ,R,r,iz (of_post h) .refl λb S1 h1 ρ1 H1 e1 f=>?_⟩
 cases b with
 | true=>rw[aR rfl];exact⟨ρ1,S1,τ,f,r.ext e1,vS.ext h1 e1⟩
 | false=>rw[aU bf];exact⟨ρ1,S1,τ,f,r.ext e1,vS.ext h1 e1⟩
abbrev jf (e:Ex)(g:Tg):Sm:=λτ S=>.of (e τ S) λa S1=>.of (g a τ S1) λd S2=>.nx d S2
def Kq{f:Ex}{g:Tg}{H:Hp}(h:tS X (jf f g) D σ H):ER (tE X f) (tG X g) D σ H:=by
 kl_no;exact⟨ρ,S,τ,R,r,iz (of_post h) .refl λa S1 h1 ρ1 H1 x e1 j d=>⟨ρ1,S1,τ,a,j,r.ext e1,d,iz (of_post h1) e1 λk S2 h2=>BK.ext h2 e1⟩⟩
def qA{tg:aF}{f:Ex}{g:Tg}(j:AE X e f)(hg:AG X tg g)(hs:swapsWithSole [tg] e pos.line X.env=pure false<|>ε)(hw:swappedStores [tg] e X.env=pure none<|>ε)
  (h1:(assignEach [tg] X.env).map (·.2)=[assign tg X.env]<|>ε):AS X (.Assign [tg] e pos) (jf f g):=PS.imp (Mr j hg hs hw h1) λD σ H h=>Kq h
def i7{i:Nat}{x:Str}{f:Ex}(j:X.N.Nodup)(J:AE X e f)(hi:X.N[i]?=some x<|>ε)(hx:Loc X.env.scope x:=by first|exact Or.inl rfl|exact Or.inr rfl)(hs:(swapsWith e (some<|.Name x pos') pos.line X.env=pure false)<|>ε)(hf:X.fn x=true\/X.env.scope.names.lookup x=some .local<|>γ) :
  AS X (.Assign [.Name x pos'] e pos) (jf f<|i_ i):=PS.imp (Ol j hi hx J hs hf) λD σ H ⟨ρ,S,τ,R,r,h⟩=>
 ⟨ρ,S,τ,R,r,iz (of_post h) .refl λa S1 h1 ρ1 H1 x e1 g d=>h1 ρ1 H1 _ e1 g<|(r.ext e1).set d⟩
abbrev Rb (i j:Nat)(c:n6):Sm:=λτ S=>.of (c τ S) λd S1=>match d with
 | [a,b]=>.nx ((τ.set i a).set j b) S1
 | _=>.no
abbrev ip (X:Cx)(f:A->A->iC->R A):O_:=λx y H Q=>∃ρ S a b,Rel X.K ρ H S/\AV X.K ρ H a x/\AV X.K ρ H b y/\(f a b S).post (tM X ρ H Q) (XE X ρ H)
abbrev Ks (a b:A)(S:iC):R A:=match a,b with
 | .int i,.int j=>.ok (.int<|i+j) S
 | _,_=>.no
def AD:Oo X .Add (ip X Ks):=λpins s σ H x y v u Q I r1 r2 h9=>by
 x_go
 cases va with
 | int i=>
  cases vb with
  | int j=>exact MJ pins s σ H _ _ v u Q I r1 r2 ⟨i,j,rfl,rfl,h _ _ _ .refl R<|.int _⟩
  | _=>exact h.elim
 | _=>exact h.elim
def JN:Oo X .Sub (ip X aSub):=λpins s σ H x y v u Q I r1 r2 h9=>by
 x_go
 cases va with
 | int i=>
  cases vb with
  | int j=>exact N2 pins s σ H _ _ v u Q I r1 r2 ⟨i,j,rfl,rfl,h _ _ _ .refl R<|.int _⟩
  | _=>exact h.elim
 | _=>exact h.elim
abbrev zJ (i:Nat)(f:A->A->iC->R A)(e:Ex):Sm:=λτ S=>if (τ.getD i .unb).kQ then .no else .of (e τ S) λb S1=>.of (f (τ.getD i .unb) b S1) λc S2=>.nx (τ.set i c) S2
def z6{i:Nat}{x:Str}{c:Ex}{f:A->A->iC->R A}(J:X.N.Nodup)(L:AE X e c)(M:Oo X op<|ip X f)(hi:X.N[i]?=some x<|>ε)(hx:Loc X.env.scope x:=by first|exact Or.inl rfl|exact Or.inr rfl)(hf:X.fn x=true\/X.env.scope.names.lookup x=some .local<|>γ) :
  AS X (.AugAssign (.Name x pos') op e pos) (zJ i f c):=PS.imp (Of J hi hx L M hf) λD σ H h9=>by
 z_go;have d:∀x,τ[i]?=some x->x.kQ=false->(RS.of (c τ S) λb S1=>.of (f x b S1) λc S2=>.nx (τ.set i c) S2).post (BK X ρ H D.nx) (tM X ρ H D.rt) (BK X ρ H D.bk) (BK X ρ H D.ct) (XE X ρ H) ->
   ∃x,σ[i]?=some (some x)/\tE X c σ H λy H1=>ip X f x y H1 λz H2=>D.nx (σ.set i<|some z) H2:=by
  intro x hi hx h
  rcases r.at i x hi with z|⟨v,e,q⟩
  ·subst z;cases hx
  ·refine⟨v,e,ρ,S,τ,R,r,iz (of_post h) .refl λb S1 h1 ρ1 H1 y e1 j m=>⟨ρ1,S1,x,b,j,q.ext e1,m,iz (of_post h1) e1 λw S2 h2 g H2 z e2 R2 k=>?_⟩⟩;exact h2 g H2 _ (e1.trans e2) R2<|(r.ext<|e1.trans e2).set k
 unfold zJ vS at h;rw[aI]at h
 cases hi:τ[i]? with
 | none=>rw[hi]at h;exact h.elim
 | some x=>
  rw[hi]at h
  cases hx:x.kQ with
  | true=>rw[show(some x).getD .unb=x from rfl,hx]at h;exact h.elim
  | false=>rw[show(some x).getD .unb=x from rfl,hx]at h;exact d x hi hx h
abbrev JK (a b:A)(S:iC):R A:=match a,b with
 | .ref n,.int i=>opt (iw S n) λxs=>gd (0<=i) (opt (xs[i.toNat]?) λx=>.ok x S)
 | _,_=>.no
abbrev OA (co j J:Ex)(f:A->A->iC->R A):Sm:=λτ S=>.of (co τ S) λo S1=>.of (j τ S1) λi S2=>.of (JK o i S2) λx S3=>.of (J τ S3) λy S4=>.of (f x y S4) λz S5=>.of (xU o i z S5) λ_ d=>.nx τ d
abbrev j5 (t:Te)(c:Sm):Nat->Sm
 | 0=>λ_ _=>.no
 | n+1=>λτ S=>.of (t τ S) λb S1=>match b with
  | false=>.nx τ S1
  | true=>match c τ S1 with
   | .nx d f=>j5 t c n d f
   | .ct d f=>j5 t c n d f
   | .bk d f=>.nx d f
   | r=>r
def ux(n:Nat){t:Te}(hp:PassesOwn (model X.prog X.w) X.A X.env X.xe)(L:AT X e t)(hb:Jp X body c):AS X (.While e body [] pos) (j5 t c n):=PS.imp (EB hp L hb) λD σ H h9=>by
 z_go;refine⟨λm g H'=>∃ρ' f d,Ext ρ ρ' H H'/\Rel X.K ρ' H' f/\SR X.K ρ' H' d g/\vS X ρ' H' D (j5 t c m d f),⟨n,ρ,S,τ,.refl,R,r,h⟩,?_⟩;rintro m F H1 ⟨ρ1,S1,τ1,e1,G,r1,h1⟩
 cases m with
 | zero=>exact h1.elim
 | succ m=>
  refine⟨ρ1,S1,τ1,G,r1,iz (of_post h1) .refl λb S2 h2 k H2 e2 R2=>?_⟩
  cases b with
  | false=>rw[aU bf];exact h2 k H2 F e2 R2 (r1.ext e2)
  | true=>
   rw[aR rfl];refine⟨λg H'=>∃ρ' f d,Ext ρ ρ' H H'/\Rel X.K ρ' H' f/\SR X.K ρ' H' d g/\vS X ρ' H' D (j5 t c m d f),λg H' z=>⟨m,bD _,z⟩,k,S2,τ1,R2,r1.ext e2,?_⟩;have h2:vS X ρ1 H1 D (match c τ1 S2 with
    | .nx d f=>j5 t c m d f
    | .ct d f=>j5 t c m d f
    | .bk d f=>.nx d f
    | r=>r):=h2
   cases hc:c τ1 S2 with
   | nx τ3 S3=>rw[hc]at h2;exact λρ3 J B j C r3=>⟨ρ3,S3,τ3,(e1.trans e2).trans j,C,r3,vS.ext h2<|e2.trans j⟩
   | ct τ3 S3=>rw[hc]at h2;exact λρ3 J B j C r3=>⟨ρ3,S3,τ3,(e1.trans e2).trans j,C,r3,vS.ext h2<|e2.trans j⟩
   | bk τ3 S3=>rw[hc]at h2;exact BK.ext h2 e2
   | rt a S3=>rw[hc]at h2;exact tM.ext h2 e2
   | ex x S3=>rw[hc]at h2;exact XE.ext h2 e2
   | no=>rw[hc]at h2;exact h2
end
structure Src where
 k:Nat
 get:Nat->iC->Option A
 fin:iC->Bool
structure JR (K:aA)(s:Src)(J:It)(ρ0:bd)(H0:Hp):Prop where
 go:∀(i:Nat) (S:iC) (H:Hp) (ρ:bd) (x:A),Ext0 ρ0 ρ H0 H->Rel K ρ H S->s.get i S=some x->J.go i H/\∀v H',J.yld i H v H'->Ext ρ ρ H H'/\Rel K ρ H' S/\AV K ρ H' x v
 stop:∀(S:iC) (H:Hp) (ρ:bd),Ext0 ρ0 ρ H0 H->Rel K ρ H S->s.fin S=true->J.stop s.k H
meta abbrev Ic:=ae->iC->R Src
abbrev tI (X:Cx)(c:Ic):TI:=λσ H Q=>∃ρ S τ,Rel X.K ρ H S/\SR X.K ρ H τ σ/\(c τ S).post (λs d=>∀ρ' H' J,Ext ρ ρ' H H'->Rel X.K ρ' H' d->JR X.K s J ρ' H'->Q J H') (XE X ρ H)
abbrev AI (X:Cx)(tg iter:aF)(c:Ic):Prop:=PI X tg iter<|tI X c
abbrev nG (xs:ae):Src:=⟨xs.length,λi _=>xs[i]?,λ_=>true⟩
abbrev i9 (n k:Nat):Src:=⟨k,λi S=>(iw S n).bind (·[i]?),λS=>match iw S n with
 | some ys=>decide (ys.length<=k)
 | none=>false⟩
abbrev oE (lo hi:Int):Src:=⟨(hi-lo).toNat,λi _=>if i<(hi-lo).toNat then some (.int<|lo+i)else none,λ_=>true⟩
abbrev jX (c:Ex):Ic:=λτ S=>(c τ S).bind λa S1=>match a with
 | .tup xs=>.ok (nG xs) S1
 | .frz xs=>.ok (nG xs) S1
 | .ref n=>opt (iw S1 n) λxs=>.ok (i9 n xs.length) S1
 | .str x=>gd (x.cps.all (· < 128)=true) (.ok (nG<|x.cps.toList.map λc=>.str ⟨#[c]⟩) S1)
 | _=>.no
section
variable {X:Cx}{pos:Pos}{tg e a b:aF}
def Ml{K:aA}{j:Hp}{p:aq}(h:lW K j p vs)(r:AVs K ρ0 j xs vs):JR K (nG xs) (Om K p) ρ0 j where
 go:=λi S H ρ x e R g=>by
  obtain⟨v,ev,d⟩:=(AVs.jv e r).get g;have hs:=e.Sn h;refine⟨⟨vs,v,hs,ev⟩,λw H' ⟨e1,y⟩=>?_⟩;subst e1;have:=y vs hs;rw[ev]at this
  cases this
  exact⟨.refl,R,d⟩
 stop:=λS H ρ e R _=>⟨vs,e.Sn h,by rw[<- r.length];exact aP _⟩
def MP{K:aA}{j:Hp}{p:aq}(h:Fz K j p vs)(r:AVs K ρ0 j xs vs):JR K (nG xs) (QE K p) ρ0 j where
 go:=λi S H ρ x e R g=>by
  obtain⟨v,ev,d⟩:=(AVs.jv e r).get g;have hs:=(e.fz h).J0;refine⟨⟨vs,v,hs,ev⟩,λw H' ⟨e1,y⟩=>?_⟩;subst e1;have:=y vs hs;rw[ev]at this
  cases this
  exact⟨.refl,R,d⟩
 stop:=λS H ρ e R _=>⟨vs,(e.fz h).J0,by rw[<- r.length];exact aP _⟩
def NL{K:aA}{j:bd}{J:Hp}{p:aq}{n k:Nat}(h:j[n]?=some p):JR K (i9 n k) (QE K p) j J where
 go:=λi S H ρ x e R g=>by
  obtain⟨ys,hn,hx⟩:=bP.mp<|show(iw S n).bind (·[i]?)=some x from g;obtain⟨d,h1,r⟩:=R.lst (e.get h)<|iK hn;obtain⟨v,ev,f⟩:=r.get hx;refine⟨⟨d,v,jR.of h1,ev⟩,λw H' ⟨e1,y⟩=>?_⟩;subst e1;have:=y d<|jR.of h1;rw[ev]at this
  cases this
  exact⟨.refl,R,f⟩
 stop:=λS H ρ e R g=>by
  have g:(match iw S n with
   | some ys=>decide (ys.length<=k)
   | none=>false)=true:=g
  cases hn:iw S n with
  | none=>rw[hn]at g;cases g
  | some ys=>
   rw[hn]at g;obtain⟨d,h1,r⟩:=R.lst (e.get h)<|iK hn;exact⟨d,jR.of h1,by rw[<- r.length];exact gK g⟩
def G8{K:aA}{j:Hp}{lo hi:Int}:JR K (oE lo hi) (Qj lo (hi-lo).toNat) ρ0 j where
 go:=λi S H ρ x e R g=>by
  have g:(if i<(hi-lo).toNat then some (A.int<|lo+i)else none)=some x:=g;by_cases d:i<(hi-lo).toNat
  ·rw[aR d]at g
   cases g
   refine⟨d,λw H' ⟨e1,y⟩=>?_⟩;subst e1 y;exact⟨.refl,R,.int _⟩
  ·rw[aU d]at g;cases g
 stop:=λS H ρ e R _=>aP _
def Ng{K:aA}{J:Hp}{x:Str}:JR K (nG<|x.cps.toList.map λc=>A.str ⟨#[c]⟩) (RG x) ρ0 J where
 go:=λi S H ρ y e R g=>by
  have g:(x.cps.toList.map λc=>A.str ⟨#[c]⟩)[i]?=some y:=g;rw[aX]at g;obtain⟨c,hc,rfl⟩:=bh.mp g;rw[fS]at hc;refine⟨(Array.getElem?_eq_some_iff.mp hc).1,λw H' ⟨e1,j,d,f⟩=>?_⟩;rw[hc]at d
  cases d
  subst e1 f;exact⟨.refl,R,.str _⟩
 stop:=λS H ρ e R _=>by
  show(x.cps.toList.map λc=>A.str ⟨#[c]⟩).length=x.cps.size;rw[aL,bZ]
def mh{c:Ex}(J:AE X e c):AI X tg e (jX c):=λpins s σ H Q I h9=>by
 z_go;have hb:=iD h
 cases hc:c τ S with
 | no=>rw[hc]at hb;exact hb.elim
 | ex x S1=>
  rw[hc]at hb;exact IP J pins s σ H Q I ⟨ρ,S,τ,R,r,by rw[hc];exact hb⟩
 | ok a S1=>
  rw[hc]at hb
  cases a with
  | tup xs=>
   refine IP J pins s σ H Q I ⟨ρ,S,τ,R,r,?_⟩;rw[hc];intro ρ1 H1 x e1 d f
   cases f with
   | tup h1 r1=>exact⟨_,rfl,⟨_,(lW.of h1)⟩,hb ρ1 H1 _ e1 d<|Ml (lW.of h1) r1⟩
  | frz xs=>
   refine Cm J pins s σ H Q I ⟨ρ,S,τ,R,r,?_⟩;rw[hc];intro ρ1 H1 x e1 d f
   cases f with
   | frz h1 r1=>exact⟨_,rfl,⟨_,h1.J0⟩,hb ρ1 H1 _ e1 d<|MP h1 r1⟩
  | ref n=>
   obtain⟨xs,hn,hb⟩:=iF hb;refine Cm J pins s σ H Q I ⟨ρ,S,τ,R,r,?_⟩;rw[hc];intro ρ1 H1 x e1 d f
   cases f with
   | ref hp=>
    obtain⟨j,h1,r1⟩:=d.lst hp<|iK hn;exact⟨_,rfl,⟨_,jR.of h1⟩,hb ρ1 H1 _ e1 d<|NL hp⟩
  | str x=>
   obtain⟨g,hb⟩:=iY hb;refine Nj J pins s σ H Q I ⟨ρ,S,τ,R,r,?_⟩;rw[hc];intro ρ1 H1 v e1 d f
   cases f with
   | str=>exact⟨x,rfl,g,hb ρ1 H1 _ e1 d Ng⟩
  | _=>exact hb.elim
abbrev bnd (i:Int):Prop:=-(2 ^ 62)<=i/\i<2 ^ 62
instance (i:Int):Decidable (bnd i):=by unfold bnd;infer_instance
abbrev qg (c:Ex):Ic:=λτ S=>(c τ S).bind λa S1=>match a with
 | .int j=>gd (bnd j) (.ok (oE 0 j) S1)
 | _=>.no
abbrev uO (c d:Ex):Ic:=λτ S=>(c τ S).bind λa S1=>(d τ S1).bind λb S2=>match a,b with
 | .int i,.int j=>gd (bnd i/\bnd j) (.ok (oE i j) S2)
 | _,_=>.no
def nQ{p:Pos}{c:Ex}(hm:X.mg "range" = none)(J:AE X a c)(hg:Gl X "range"<|>ε)(hs:starEach [a] X.env=[(false,eval a X.env)]<|>ε):AI X tg (.Call (.Name "range" p) [a] [] pos) (qg c):=λpins s σ H Q I h9=>by
 z_go;refine Dp hg hm (k9 J rV hs) hs pins s σ H Q I ⟨ρ,S,τ,R,r,iz (iD h) .refl λx S1 h1 ρ1 H1 v e1 d f=>?_⟩
 cases f with
 | int j=>
  obtain⟨hb,h1⟩:=iY h1;exact⟨_,rfl,hb.1,hb.2,by have:=h1 ρ1 H1 _ e1 d G8;rwa [Int.sub_zero]at this⟩
 | _=>exact h1.elim
def DE{p:Pos}{c d:Ex}(hm:X.mg "range" = none)(L:AE X a c)(hb:AE X b d)(hg:Gl X "range"<|>ε)(hs:starEach [a,b] X.env=[(false,eval a X.env),(false,eval b X.env)]<|>ε)(J:starEach [b] X.env=[(false,eval b X.env)]<|>ε):AI X tg (.Call (.Name "range" p) [a,b] [] pos) (uO c d):=λpins s σ H Q I h9=>by
 z_go;refine DT hg hm (k9 L (k9 hb rV J)<|by rw[hs,J]) hs J pins s σ H Q I ⟨ρ,S,τ,R,r,iz (iD h) .refl λx S1 h1 ρ1 H1 v e1 g m=>⟨ρ1,S1,τ,g,r.ext e1,iz (iD h1) e1 λy S2 h2 f H2 w e2 R2 k=>?_⟩⟩
 cases m with
 | int i=>
  cases k with
  | int j=>
   obtain⟨hb,h2⟩:=iY h2;exact⟨_,_,rfl,⟨hb.1.1,hb.1.2,hb.2.1,hb.2.2⟩,h2 f H2 _ (e1.trans e2) R2 G8⟩
  | _=>exact h2.elim
 | _=>exact h2.elim
abbrev ng (s:Src)(g:Tg)(c:Sm):Nat->Nat->Sm
 | 0,_=>λτ S=>if s.fin S then .nx τ S else .no
 | k+1,i=>λτ S=>match s.get i S with
  | none=>.no
  | some x=>.of (g x τ S) λτ1 S1=>match c τ1 S1 with
   | .nx d f=>ng s g c k (i+1) d f
   | .ct d f=>ng s g c k (i+1) d f
   | .bk d f=>.nx d f
   | r=>r
abbrev mW (src:Ic)(g:Tg)(c:Sm):Sm:=λτ S=>.of (src τ S) λs S1=>ng s g c s.k 0 τ S1
def ni{iter:aF}{src:Ic}{g:Tg}{c:Sm}(hp:PassesOwn (model X.prog X.w) X.A X.env X.xe)(hc:X.calm=true)(hi:AI X tg iter src)(hg:AG X tg g)(hb:Jp X body c)
  (hs:(∀x,foldedSetIterable iter X.env x=pure x)<|>ζ):AS X (.For tg iter body [] pos) (mW src g c):=PS.imp (Mt hp hc hi hg hb hs) λD σ H h9=>by
 z_go;refine⟨ρ,S,τ,R,r,iz (of_post h) .refl λs S1 h1 ρ1 H1 J e1 R1 U=>?_⟩;refine⟨λi m G H'=>m+i=s.k/\∃ρ' C d,Ext ρ1 ρ' H1 H'/\Rel X.K ρ' H' C/\SR X.K ρ' H' d G/\vS X ρ' H' D (ng s g c m i d C),⟨s.k,rfl,ρ1,S1,τ,.refl,R1,r.ext e1,vS.ext h1 e1⟩,?_⟩;rintro i m P H2 ⟨hm,j,S2,L,e2,R2,r2,h2⟩
 cases m with
 | zero=>
  left;have h2:vS X j H2 D (if s.fin S2 then .nx L S2 else .no):=h2
  cases hf:s.fin S2 with
  | false=>rw[hf]at h2;exact h2.elim
  | true=>
   rw[hf]at h2;refine⟨by rw[show i=s.k by lia];exact U.stop S2 H2 j e2.toExt0 R2 hf,h2 j H2 P .refl R2 r2⟩
 | succ m=>
  right;have h2:vS X j H2 D (match s.get i S2 with
   | none=>.no
   | some x=>.of (g x L S2) λτ1 S1=>match c τ1 S1 with
    | .nx d C=>ng s g c m (i+1) d C
    | .ct d C=>ng s g c m (i+1) d C
    | .bk d C=>.nx d C
    | r=>r):=h2
  cases hx:s.get i S2 with
  | none=>rw[hx]at h2;exact h2.elim
  | some x=>
   rw[hx]at h2;obtain⟨M,hy⟩:=U.go i S2 H2 j x e2.toExt0 R2 hx;refine⟨M,λG H'=>m+(i+1)=s.k/\∃ρ' C d,Ext ρ1 ρ' H1 H'/\Rel X.K ρ' H' C/\SR X.K ρ' H' d G/\vS X ρ' H' D (ng s g c m (i+1) d C),λG H' z=>⟨m,bD _,z⟩,λv Y y=>?_⟩;obtain⟨O,W,v3⟩:=hy v Y y;refine⟨j,S2,L,x,W,r2.ext O,v3,iz (of_post h2) O λτ4 S4 B N H4 σ4 e4 R4 Z=>⟨N,S4,τ4,R4,Z,?_⟩⟩;have f:=O.trans e4
   cases t:c τ4 S4 with
   | nx F S5=>rw[t]at B;exact λρ5 H5 σ5 e5 R5 r5=>⟨(),ρ5,S5,F,(e2.trans f).trans e5,R5,r5,vS.ext B<|f.trans e5⟩
   | ct F S5=>rw[t]at B;exact λρ5 H5 σ5 e5 R5 r5=>⟨(),ρ5,S5,F,(e2.trans f).trans e5,R5,r5,vS.ext B<|f.trans e5⟩
   | bk F S5=>rw[t]at B;exact BK.ext B f
   | rt V S5=>rw[t]at B;exact tM.ext B f
   | ex V S5=>rw[t]at B;exact XE.ext B f
   | no=>rw[t]at B;exact B
end
section
variable {X:Cx}{tg a b c0:aF}{pos:Pos}
abbrev wj (lo hi:Int):Src:=⟨(lo-hi).toNat,λi _=>if i<(lo-hi).toNat then some (.int<|lo-i)else none,λ_=>true⟩
def Qe{K:aA}{j:Hp}{lo hi:Int}:JR K (wj lo hi) (QH lo (lo-hi).toNat) ρ0 j where
 go:=λi S H ρ x e R g=>by
  have g:(if i<(lo-hi).toNat then some (A.int<|lo-i)else none)=some x:=g;by_cases d:i<(lo-hi).toNat
  ·rw[aR d]at g
   cases g
   refine⟨d,λw H' ⟨e1,y⟩=>?_⟩;subst e1 y;exact⟨.refl,R,.int _⟩
  ·rw[aU d]at g;cases g
 stop:=λS H ρ e R _=>aP _
abbrev Rm (a b k:A)(S3:iC):R Src:=match a,b,k with
 | .int i,.int j,.int m=>gd (m=-1/\bnd i/\bnd j) (.ok (wj i j) S3)
 | _,_,_=>.no
def Hg{a b k:A}{P:Src->iC->Prop}{E:Str->iC->Prop}(h:(Rm a b k S3).post P E):∃i j,a=.int i/\b=.int j/\k=.int (-1)/\bnd i/\bnd j/\P (wj i j) S3:=by
 unfold Rm at h;split at h
 ·obtain⟨⟨z,h1,h2⟩,h⟩:=iY h;exact⟨_,_,rfl,rfl,by rw[z],h1,h2,h⟩
 ·exact h.elim
abbrev yl (c d:Ex)(e:Ex):Ic:=λτ S=>(c τ S).bind λa S1=>(d τ S1).bind λb S2=>(e τ S2).bind λk S3=>Rm a b k S3
def yz{c d e:Ex}{i j:Int}(h:c τ S=.ok (.int i) S1)(h':d τ S1=.ok (.int j) S2)(J:e τ S2=.ok (.int<|-1) S3)(hb:bnd i)(L:bnd j):yl c d e τ S=.ok (wj i j) S3:=by
 unfold yl;rw[h];show(d τ S1).bind _=_;rw[h'];show(e τ S2).bind _=_;rw[J];exact aR ⟨rfl,hb,L⟩
def vJ{p:Pos}{c d e:Ex}(hm:X.mg "range" = none)(ha:AE X a c)(hb:AE X b d)(hc:AE X c0 e)(hg:Gl X "range"<|>ε)(hs:starEach [a,b,c0] X.env=[(false,eval a X.env),(false,eval b X.env),(false,eval c0 X.env)]<|>ε)(U:starEach [b,c0] X.env=[(false,eval b X.env),(false,eval c0 X.env)]<|>ε)(Z:starEach [c0] X.env=[(false,eval c0 X.env)]<|>ε) :
  AI X tg (.Call (.Name "range" p) [a,b,c0] [] pos) (yl c d e):=λpins s σ H Q I h9=>by
 z_go;refine Jh hg hm (k9 ha (k9 hb (k9 hc rV Z)<|by rw[U,Z])<|by rw[hs,U]) hs U pins s σ H Q I ⟨ρ,S,τ,R,r,iz (iD h) .refl λx S1 h1 ρ1 H1 v e1 t L=>⟨ρ1,S1,τ,t,r.ext e1,iz (iD h1) e1 λy S2 h2 k H2 w e2 R2 B=>⟨k,S2,τ,R2,(r.ext e1).ext e2,iz (iD h2) (e1.trans e2) λz S3 G ρ3 K u C F M=>?_⟩⟩⟩;obtain⟨i,j,hx,hy,J,g,f,m⟩:=Hg G;subst hx hy J
 cases L
 cases B
 cases M
 exact⟨_,_,rfl,⟨g.1,g.2,f.1,f.2⟩,m ρ3 K _ ((e1.trans e2).trans C) F Qe⟩
end
abbrev R.jb {α β:Type}(r:R α)(f:α->iC->R β):R β:=match r with
 | .ok a S=>f a S
 | _=>.no
def i6{α β:Type}{r:R α}{f:α->iC->R β}{b:β}(h:r.jb f=.ok b S2):∃a S,r=.ok a S/\f a S=.ok b S2:=by
 cases r with
 | ok a S=>exact⟨a,S,rfl,h⟩
 | ex _ _=>cases h
 | no=>cases h
def qC{α β:Type}{r:R α}{f:α->iC->R β}{P:β->iC->Prop}{E:Str->iC->Prop}(h:(r.jb f).post P E):∃a S,r=.ok a S/\(f a S).post P E:=by
 cases r with
 | ok a S=>exact⟨a,S,rfl,h⟩
 | ex _ _=>exact h.elim
 | no=>exact h.elim
def sP{α β:Type}{o:Option β}{f:β->R α}{a:α}(h:opt o f=.ok a S):∃b,o=some b/\f b=.ok a S:=by
 cases o with
 | none=>cases h
 | some b=>exact⟨b,rfl,h⟩
abbrev jN (s:Src)(g:Tg)(t:Te)(e:Ex):Nat->Nat->ae->iC->R (ae)
 | 0,_=>λ_ S=>if s.fin S then .ok [] S else .no
 | k+1,i=>λτ S=>opt (s.get i S) λx=>(g x τ S).jb λτ1 S1=>(t τ1 S1).jb λb S2=>match b with
  | true=>(e τ1 S2).jb λy S3=>(jN s g t e k (i+1) τ1 S3).jb λys S4=>.ok (y::ys) S4
  | false=>jN s g t e k (i+1) τ1 S2
abbrev lA (cap:List<|bo)(τ:ae):ae:=cap.map λo=>match o with
 | some j=>τ.getD j .unb
 | none=>.unb
abbrev jA (cap:List<|bo)(src:Ic)(g:Tg)(t:Te)(e:Ex):Ex:=λτ S=>(src τ S).bind λs S1=>(jN s g t e s.k 0 (lA cap τ) S1).jb λys S2=>newL ys S2
abbrev jF:Te:=λ_ S=>.ok true S
def yF{s:Src}{g:Tg}{t:Te}{e:Ex}{k:Nat}{T:Prop}(h:jN s g t e (k+1) i τ S=.ok zs S')
  (q:∀x τ1 S1 b S2,s.get i S=some x->g x τ S=.ok τ1 S1->t τ1 S1=.ok b S2->(b=true->∃y S3 ws,e τ1 S2=.ok y S3/\jN s g t e k (i+1) τ1 S3=.ok ws S'/\zs=y::ws)->(b=false->jN s g t e k (i+1) τ1 S2=.ok zs S')->T):T:=by
 obtain⟨x,hx,h⟩:=sP h;obtain⟨τ1,S1,h1,h⟩:=i6 h;obtain⟨b,S2,h2,h⟩:=i6 h;mg_lt
 ·subst hb;obtain⟨y,S3,d,h⟩:=i6 h;obtain⟨ws,S4,f,h⟩:=i6 h
  cases h
  exact⟨y,S3,ws,d,f,rfl⟩
 ·subst hb;exact h
structure Out (ρ1:bd)(H1:Hp)(D:aq)(accV:List V)(ρ:bd)(H:Hp):Prop where
 e0:Ext0 ρ1 ρ H1 H
 fr:∀a u,a≠D->H1 a=some u->a∉ρ1->H a=some u
 nw:∀a∈ρ,a∈ρ1\/H1 a=none
 nD:D∉ρ
 hD:H D=some (.lst accV)
def Out.stay{H1 M H7:Hp}(o:Out ρ1 H1 D accV ρ3 M)(L:H1 D=none)(J:Ext ρ3 ρ7 M H7):Out ρ1 H1 D accV ρ7 H7:=by
 refine⟨⟨o.e0.pre.trans J.pre,λa u i h=>J.im a u i<|o.e0.im a u i h⟩,λa u na d f=>J.fr a u (o.fr a u na d f) λz=>(o.nw a z).elim f λz=>by(rw[z]at d;cases d),λa j=>?_,λz=>(J.nw D z).elim o.nD λz=>by(rw[o.hD]at z;cases z),J.fr D _ o.hD o.nD⟩;by_cases hr:a∈ρ1
 ·exact .inl hr
 ·right
  cases q:H1 a with
  | none=>rfl
  | some u=>
   have g:a≠D:=iM q L
   rcases J.nw a j with z|z
   ·exact((o.nw a z).elim hr λz=>by(rw[z]at q;cases q)).elim
   ·rw[o.fr a u g q hr]at z;cases z
def Out.put{H1 H:Hp}(o:Out ρ1 H1 D accV ρ H)(ex:Ext0 ρ ρ H<|upd H D<|.lst vs):Out ρ1 H1 D vs ρ (upd H D<|.lst vs):=
 ⟨⟨o.e0.pre,λa u i h=>ex.im a u i<|o.e0.im a u i h⟩,λa u na f d=>by rw[iB na];exact o.fr a u na f d,o.nw,o.nD,iW⟩
def Out.end{H1 H:Hp}{D:aq}(o:Out ρ1 H1 D accV ρ H)(j:H1 D=none):Ext ρ1 (ρ++[D]) H1 H:=by
 refine⟨⟨o.e0.pre.trans<|dc _ _,o.e0.im⟩,λa u d na=>o.fr a u (iM d j) d na,λa f=>?_⟩
 rcases bA.mp f with z|z
 ·exact o.nw a z
 ·have:a=D:=by simpa using z
  rw[this];exact .inr j
abbrev Cq (K:aA)(ρ1:bd)(H1:Hp)(D:aq)(ys:ae)(k:Nat)(E:bd->Hp->Prop)(P:Nat->Nat->ae->iC->ae->Prop)(i m:Nat)(σ:L2.St)(H:Hp):Prop:=
 m+i=k/\∃ρ S τ acc zs accV,Out ρ1 H1 D accV ρ H/\E ρ H/\Rel K ρ H S/\SR K ρ H τ σ/\AVs K ρ H acc accV/\P m i τ S zs/\acc++zs=ys
section
variable {K:aA}{ρ1 ρ:bd}{H1 H:Hp}{D:aq}{ys acc zs:ae}{accV:List V}{k i m:Nat}{E:bd->Hp->Prop}{P:Nat->Nat->ae->iC->ae->Prop}{σ:L2.St}{S:iC}{τ:ae}
def Cq.el{T:Prop}(h:Cq K ρ1 H1 D ys k E P i m σ H)(q:∀ρ S τ acc zs accV,m+i=k->Out ρ1 H1 D accV ρ H->E ρ H->Rel K ρ H S->SR K ρ H τ σ->AVs K ρ H acc accV->P m i τ S zs->acc++zs=ys->T):T:=by
 obtain⟨hm,ρ,S,τ,acc,zs,accV,h1,h2,g,j,f,h6,d⟩:=h;exact q ρ S τ acc zs accV hm h1 h2 g j f h6 d
def Cq.of(hm:m+i=k)(o:Out ρ1 H1 D accV ρ H)(e:E ρ H)(R:Rel K ρ H S)(r:SR K ρ H τ σ)(v:AVs K ρ H acc accV)(p:P m i τ S zs)(q:acc++zs=ys):Cq K ρ1 H1 D ys k E P i m σ H:=⟨hm,ρ,S,τ,acc,zs,accV,o,e,R,r,v,p,q⟩
end
abbrev Jd (K:aA)(c:Ex):TE:=λσ H Q=>∃ρ S τ a d,Rel K ρ H S/\SR K ρ H τ σ/\c τ S=.ok a d/\∀ρ' H' v,Ext ρ ρ' H H'->Rel K ρ' H' d->AV K ρ' H' a v->Q v H'
abbrev Hq (K:aA)(c:Te):TT:=λσ H Q=>∃ρ S τ a d,Rel K ρ H S/\SR K ρ H τ σ/\c τ S=.ok a d/\∀ρ' H',Ext ρ ρ' H H'->Rel K ρ' H' d->Q a H'
abbrev IZ (K:aA)(g:Tg):TG:=λv σ H Q=>∃ρ S τ a d j,Rel K ρ H S/\SR K ρ H τ σ/\AV K ρ H a v/\g a τ S=.ok d j/\∀ρ' H' f,Ext ρ ρ' H H'->Rel K ρ' H' j->SR K ρ' H' d f->Q f H'
section
variable {X:Cx}{pos:Pos}{tg iter elt e:aF}{ifs:List aF}{scope:Scope}{N:ar}{cap:List (bo)}{src:Ic}{g:Tg}{t:Te}{c:Ex}
def AE.e0{K:aA}(hK:X.K=K)(h:AE X e c):PE X e (Jd K c):=PE.imp h λσ H Q ⟨ρ,S,τ,a,g,R,r,hc,q⟩=>⟨ρ,S,τ,by rw[hK];exact R,by rw[hK];exact r,by rw[hc];exact λρ' H' v e f d=>q ρ' H' v e (by rw[<- hK];exact f)<|by rw[<- hK];exact d⟩
def AT.t0{K:aA}(hK:X.K=K)(h:AT X e t):PT X e (Hq K t):=PT.imp h λσ H Q ⟨ρ,S,τ,a,f,R,r,hc,q⟩=>⟨ρ,S,τ,by rw[hK];exact R,by rw[hK];exact r,by rw[hc];exact λρ' H' e d=>q ρ' H' e<|by rw[<- hK];exact d⟩
def AG.g0{K:aA}(hK:X.K=K)(h:AG X e g):PG X e (IZ K g):=by
 subst hK;refine PG.imp h λv σ H Q h9=>?_;obtain⟨ρ,S,τ,a,d,f,R,r,va,hc,q⟩:=h9;exact⟨ρ,S,τ,a,R,r,va,by rw[hc];exact q⟩
abbrev LQ (X:Cx)(ifs:List aF)(t:Te):Prop:=zU X ifs<|Hq X.K t
def ko:LQ X [] jF:=λpins s σ H Q I ⟨ρ,S,τ,a,d,R,r,hc,q⟩=>Jj pins s σ H Q I<|by cases hc;exact q ρ H .refl R
def Co(h:AT X e t):LQ X [e] t:=KR<|h.t0 rfl
def Gj{K:aA}{H:Hp}(r:SR K ρ H τ σ)(cap:List<|bo):SR K ρ H (lA cap τ) (cap.map<|Fg σ):=by
 refine⟨by simp[lA],λi a h=>?_⟩;unfold lA at h;rw[aX]at h;obtain⟨o,f,e⟩:=bh.mp h
 cases o with
 | none=>exact .inl e.symm
 | some j=>
  have e:τ.getD j .unb=a:=e
  cases d:τ[j]? with
  | none=>rw[aI,d]at e;exact .inl e.symm
  | some b=>
   rw[aI,d]at e;have e:b=a:=e;subst e
   rcases r.at j b d with z|⟨v,h1,h2⟩
   ·exact .inl z
   ·exact .inr ⟨v,by rw[aX,f];show some ((σ[j]?).getD none)=_;rw[h1];rfl,h2⟩
def Rel.yg{K:aA}{H:Hp}{p:aq}(R:Rel K ρ H S)(hp:H p=none):p∉ρ:=λhm=>by
 obtain⟨n,hn,e⟩:=dF.mp hm;have g:n<S.length:=by rw[<- R.len];exact hn
 have:=R.at n p S[n] (by rw[aH hn,e]) (aH g)
 cases d:S[n]with
 | lst xs=>rw[d]at this;obtain⟨f,h,_⟩:=this;rw[hp]at h;cases h
 | dct _|mY _|dks _|dcp _=>rw[d]at this;obtain⟨f,h,_⟩:=this;rw[hp]at h;cases h
 | dcf _|dkf _=>rw[d]at this;obtain⟨_,f,h,_⟩:=this;rw[hp]at h;cases h
 | ins _ _=>rw[d]at this;obtain⟨_,_,h⟩:=this;rw[hp]at h;cases h
def yx(σ:L2.St)(H:Hp)(Q:VK)(h:tE X (jA cap src g t c) σ H Q):Qq cap (tI X src) (IZ X.K g) (Hq X.K t) (Jd X.K c) σ H Q:=by
 kl_no;refine⟨ρ,S,τ,R,r,iz (iD h) .refl λs S1 h1 ρ1 H1 J e1 R1 Z D hD=>?_⟩;obtain⟨ys,S2,O,h1⟩:=qC h1;obtain⟨G,h1⟩:=iY h1;have h1:tM X ρ H Q (.ref S2.length) (S2++[.lst ys]):=h1;obtain⟨W,RD⟩:=R1.im (u:=.lst []) hD;refine⟨Cq X.K ρ1 H1 D ys s.k (λ_ _=>True) λm i τ S zs=>jN s g t c m i τ S=.ok zs S2,⟨s.k,.of rfl ⟨W.toExt0,λa u na hu _=>by rw[iB na];exact hu,λa ha=>.inl ha,R1.yg hD,iW⟩ trivial RD (Gj ((r.ext e1).ext W) cap) .nil O rfl⟩,?_⟩;intro i m σ3 N hw;refine hw.el λρ3 S3 τ3 acc zs accV hm C _ U r3 j d f=>?_;clear hw
 cases m with
 | zero=>
  left;have d:(if s.fin S3 then Am.R.ok [] S3 else .no)=.ok zs S2:=d
  cases hf:s.fin S3 with
  | false=>rw[hf]at d;cases d
  | true=>
   rw[hf]at d
   cases d
   rw[bJ]at f;subst f;refine⟨by rw[show i=s.k by lia];exact Z.stop _ N ρ3 C.e0 U hf,?_⟩;obtain⟨RT,gt⟩:=U.take C.hD C.nD j;exact h1 (ρ3++[D]) N _ (e1.trans<|C.end hD) RT<|.ref gt
 | succ m=>
  right;refine yF d λx τ4 S4 b S5 hx hg4 ht5 hT hF=>?_;have Y:=Z.go i S3 N ρ3 x C.e0 U hx;refine⟨Y.1,λv H4 y=>?_⟩;obtain⟨e4,R4,v4⟩:=Y.2 v H4 y;gp_on;have z:=(e4.trans e5).trans e6
  cases b with
  | false=>
   dsimp only;rw[aU bf];exact⟨m,bD _,.of () (C.stay hD z) trivial R6 (r5.ext e6) (j.ext z) (hF rfl) f⟩
  | true=>
   dsimp only;rw[aR rfl];obtain⟨y,S6,ws,M,P,F⟩:=hT rfl;refine⟨ρ6,S5,τ4,y,S6,R6,r5.ext e6,M,λρ7 H7 w V R7 v7=>?_⟩;have L:=C.stay hD<|z.trans V;obtain⟨B,R8⟩:=R7.out (ws:=accV++[w]) L.hD L.nD;have l1:=j.length;refine⟨accV,L.hD,?_,m,bD _,.of () (L.put B) trivial R8 ((r5.ext<|e6.trans V).jv B) (AVs.jv B<|(j.ext<|z.trans V).append<|.one v7) P ?_⟩
   ·have:(acc++zs).length<=sizeLine:=by rw[f];exact G
    rw[F,aY,bz]at this
    lia
   ·rw[bg,<- f,F];rfl
def lY(hc:X.calm=true)(j:CpScope X scope N cap)(hi:AI X tg iter src)(hg:∀C s₀ H₀ ex,AG (iU X scope N C s₀ H₀ ex) tg g)(J:∀C s₀ H₀ ex,LQ (iU X scope N C s₀ H₀ ex) ifs t)(L:∀C s₀ H₀ ex,AE (iU X scope N C s₀ H₀ ex) elt c)
  (hs:(∀x,foldedSetIterable iter X.env x=pure x)<|>ζ):AE X (.ListComp elt [⟨tg,iter,ifs,0⟩] scope pos) (jA cap src g t c):=
 PE.imp (Qm hc j hi (g:=IZ X.K g) (tc:=Hq X.K t) (te:=Jd X.K c) (λC s₀ H₀ ex=>(hg C s₀ H₀ ex).g0 rfl) (λC s₀ H₀ ex=>J C s₀ H₀ ex) (λC s₀ H₀ ex=>(L C s₀ H₀ ex).e0 rfl) hs) yx
def Kv{i:Nat}{x:Str}{j:Pos}(M:X.N.Nodup)(hc:X.calm=true)(U:CpScope X scope N cap)(hi:AI X tg iter src)(hg:∀C s₀ H₀ ex,AG (iU X scope N C s₀ H₀ ex) tg g)(Z:∀C s₀ H₀ ex,LQ (iU X scope N C s₀ H₀ ex) ifs t)(he:∀C s₀ H₀ ex,AE (iU X scope N C s₀ H₀ ex) elt c)
  (J:X.N[i]?=some x<|>ε) (hx:Loc X.env.scope x:=by first|exact Or.inl rfl|exact Or.inr rfl)
  (L:(swapsWith (.ListComp elt [⟨tg,iter,ifs,0⟩] scope pos) (some<|.Name x pos') j.line X.env=pure true)<|>ε) (hf:X.fn x=true\/X.env.scope.names.lookup x=some .local<|>γ)
  (hs:(∀x,foldedSetIterable iter X.env x=pure x)<|>ζ):AS X (.Assign [.Name x pos'] (.ListComp elt [⟨tg,iter,ifs,0⟩] scope pos) j) (jf (jA cap src g t c)<|i_ i):=
 PS.imp (Im M J hx hc U hi (g:=IZ X.K g) (tc:=Hq X.K t) (te:=Jd X.K c) (λC s₀ H₀ ex=>(hg C s₀ H₀ ex).g0 rfl) (λC s₀ H₀ ex=>Z C s₀ H₀ ex) (λC s₀ H₀ ex=>(he C s₀ H₀ ex).e0 rfl) L hf hs) λD σ H ⟨ρ,S,τ,R,r,h⟩=>
  yx σ H _ ⟨ρ,S,τ,R,r,iz (of_post h) .refl λa S1 h1 ρ1 H1 x e1 d f=>h1 ρ1 H1 _ e1 d<|(r.ext e1).set f⟩
end
abbrev A.lst? (S:iC):A->Option (ae)
 | .ref n=>iw S n
 | _=>none
abbrev IX (f:A->ae->iC->R A)(co:Ex)(d:n6):Ex:=λτ S=>(co τ S).bind λo S1=>opt (o.lst? S1) λ_=>(d τ S1).bind λg S2=>f o g S2
abbrev Nt (f:A->ae->iC->R A)(co:Ex):Ex:=λτ S=>(co τ S).bind λo S1=>opt (o.lst? S1) λ_=>f o [] S1
abbrev rM (X:Cx)(f:A->ae->iC->R A):V->List V->Hp->VK->Prop:=λx g H Q=>∃ρ S o d,Rel X.K ρ H S/\AV X.K ρ H o x/\AVs X.K ρ H d g/\(f o d S).post (tM X ρ H Q) (XE X ρ H)
section
variable {X:Cx}{apos cpos:Pos}{o e:aF}{es:List aF}{name:Str}{id:String}{f:A->ae->iC->R A}{co:Ex}{d:n6}
def lst?_ty{K:aA}{H:Hp}{x:A}{v:V}(R:Rel K ρ H S)(h:AV K ρ H x v)(e:x.lst? S=some xs):OO K "list" v H:=by
 cases h with
 | ref h=>
  obtain⟨d,h1,_⟩:=R.lst h<|iK e;exact .inl ⟨rfl,d,jR.of h1⟩
 | _=>cases e
def uD(slot:Slot "list" name id)(Z:typeOf (.builtin id)=pure (.type "method_descriptor"))(hm:LH X id<|rM X f)(ho:AE X o co)(ha:AL X (e::es) d)
  (L:attributeBase o name X.env (eval o X.env)=eval o X.env<|>ε)
  (U:(((backTo cpos<|starEach (e::es) X.env).all (λx=>!x.1) && (backToKw cpos<|keywordEach [] X.env).all (λx=>x.1.isSome)
   && decide ((e::es).length+([]:List Keyword).length+(if ([]:List Keyword).isEmpty then 0 else 1)<30))=true)<|>ε)
  (M:(apos.endLine == cpos.line)=true<|>ε) (hs:starEach (e::es) X.env=(false,eval e X.env)::starEach es X.env<|>ε) (J:((backTo cpos<|starEach es X.env).any (·.1)=false)<|>ε) :
  AE X (.Call (.Attribute o name apos) (e::es) [] cpos) (IX f co d):=PE.imp (L_ PySem.F.plainAttrs_list slot Z hm ho ha L U M hs J) λσ H Q h9=>by
 z_go;refine⟨ρ,S,τ,R,r,iz (iD h) .refl λx S1 h1 ρ1 H1 v e1 j k=>?_⟩;obtain⟨xs,hx,h1⟩:=iF h1;refine⟨lst?_ty j k hx,ρ1,S1,τ,j,r.ext e1,iz (iD h1) e1 λt S2 h2 g H2 B e2 R2 m=>?_⟩;exact⟨g,S2,x,t,R2,k.ext e2,m,iz h2 (e1.trans e2) λ_ _ z=>z.ext<|e1.trans e2⟩
def M9(slot:Slot "list" name id)(L:typeOf (.builtin id)=pure (.type "method_descriptor"))(hm:LH X id<|rM X f)(M:AE X o co)
  (j:attributeBase o name X.env (eval o X.env)=eval o X.env<|>ε) (J:(apos.endLine == cpos.line)=true<|>ε):AE X (.Call (.Attribute o name apos) [] [] cpos) (Nt f co):=PE.imp (MA PySem.F.plainAttrs_list slot L hm M j J) λσ H Q h9=>by
 z_go;refine⟨ρ,S,τ,R,r,iz (iD h) .refl λx S1 h1 ρ1 H1 v e1 g d=>?_⟩;obtain⟨xs,hx,h1⟩:=iF h1;exact⟨lst?_ty g d hx,ρ1,S1,x,[],g,d,.nil,iz h1 e1 λ_ _ z=>z.ext e1⟩
abbrev lg (o:A)(j:ae)(S:iC):R A:=match o,j with
 | .ref n,[x]=>opt (iw S n) λxs=>gd (xs.length<sizeLine) (.ok .non<|S.set n<|.lst<|xs++[x])
 | _,_=>.no
def mw:LH X "list.append" (rM X lg):=λpins s σ H x t v us Q I rx m h9=>by
 obtain⟨ρ,S,o,k,R,f,va,h⟩:=h9
 cases f with
 | @ref p n hp=>
  match k,va,h with
  | [],_,h=>exact h.elim
  | _::_::_,_,h=>exact h.elim
  | [y],va,h=>
   obtain⟨w,rfl,hw⟩:=NI va;gn_on;obtain⟨g,h⟩:=iY h;obtain⟨d,h1,r⟩:=R.lst hp<|iK hn;obtain⟨ex,j⟩:=R.put hp (iK hn)<|r.append<|.one hw;exact rW pins s σ H _ _ v us Q I rx m ⟨p,d,w,rfl,rfl,h1,by rw[<- r.length];exact g,h _ _ _ ex j .non⟩
 | _=>exact h.elim
abbrev Ni (o:A)(j:ae)(S:iC):R A:=match o,j with
 | .ref n,[]=>opt (iw S n) λxs=>opt (xs[xs.length-1]?) λx=>.ok x (S.set n<|.lst xs.dropLast)
 | _,_=>.no
def AVs.dropLast{K:aA}{H:Hp}{xs:ae}{vs:List V}(r:AVs K ρ H xs vs):AVs K ρ H xs.dropLast vs.dropLast:=by
 rw[List.dropLast_eq_take,List.dropLast_eq_take,r.length];exact r.take _
def OP:LH X "list.pop" (rM X Ni):=λpins s σ H x t v us Q I rx m h9=>by
 obtain⟨ρ,S,o,k,R,f,va,h⟩:=h9
 cases f with
 | @ref p n hp=>
  match k,va,h with
  | _::_,_,h=>exact h.elim
  | [],va,h=>
   cases va
   gn_on;obtain⟨y,hy,h⟩:=iF h;obtain⟨d,h1,r⟩:=R.lst hp<|iK hn;obtain⟨w,hw,g⟩:=r.get hy;obtain⟨ex,j⟩:=R.put hp (iK hn) r.dropLast;exact MT pins s σ H _ _ v us Q I rx m ⟨p,d,w,rfl,rfl,h1,by rw[<- r.length];exact hw,h _ _ _ ex j<|g.ext ex⟩
 | _=>exact h.elim
end
abbrev kZ (N:ar)(m:Sm)(j:ae)(S:iC):R A:=match m (j++List.replicate (N.length-j.length) .unb) S with
 | .rt a d=>.ok a d
 | .nx _ d=>.ok .non d
 | .ex c d=>.ex c d
 | _=>.no
abbrev qO (K:aA)(n:Nat)(F:ae->iC->R A):Sp:=λd H Q _=>d.length=n/\∃ρ S g a f,Rel K ρ H S/\AVs K ρ H g d/\F g S=.ok a f/\∀ρ' H' v,Ext ρ ρ' H H'->Rel K ρ' H' f->AV K ρ' H' a v->Q v H'
def JY{K:aA}{H:Hp}{j:ae}(r:AVs K ρ H j vs)(N:ar):SR K ρ H (j++List.replicate (N.length-j.length) .unb) (L2.start N vs):=by
 have f:=r.length;refine⟨by unfold L2.start;simp[f],λi a h=>?_⟩;by_cases hi:i<j.length
 ·rw[aS hi]at h;obtain⟨v,hv,d⟩:=r.get h;exact .inr ⟨v,by unfold L2.start;rw[aS<|by simp;lia,aX,hv];rfl,d⟩
 ·rw[b9 (),List.getElem?_replicate]at h;split at h
  ·exact .inl (aV h).symm
  ·cases h
section
variable {P:ah}{w:af}{K:aA}{mg:Str->bi}{base:au}
def vd{x:Str}{st:aG}{f:aq}{N ps:ar}{k:Nat}{m:Sm}(F:Fun K x qual st f fd)(L:FnScope N ps<|iO st)
  (J:∀(cdv:aa) (A:aC) (outer:List Env) (s:aE) (H:Hp) (E:XK),Room k (A.deeper<|envOfC qual (iO st) s.heap.objs.size f cdv)->Jp (z_ qa P w K mg base N qual (iO st) f cdv A outer s H E).Qs (m7 st) m) :
  FnOk P w K mg base qa (k+1) f fd ps (qO K ps.length<|kZ N m):=by
 refine F.ok L (λj H Q E h=>h.1) λcdv B outer s H j Q E hr ⟨C,ρ,S,g,a,G,R,va,d,q⟩=>⟨_,J cdv B outer s H E hr,ρ,S,_,R,JY va N,?_⟩;unfold kZ at d
 cases hm:m (g++List.replicate (N.length-g.length) .unb) S with
 | rt b S2=>rw[hm]at d;cases d;exact q
 | nx τ S2=>rw[hm]at d;cases d;exact λρ' H' z e t _=>q ρ' H' _ e t .non
 | bk τ S2=>rw[hm]at d;cases d
 | ct τ S2=>rw[hm]at d;cases d
 | ex c S2=>rw[hm]at d;cases d
 | no=>rw[hm]at d;cases d
end
meta abbrev sS (P:ah)(w:af)(K:aA)(mg:Str->bi)(base:au)(k:Nat)(x:Str)(ps:ar)(F:ae->iC->R A):Prop:=Kn P w K mg base k x ps<|qO K ps.length F
abbrev eFn (F:ae->iC->R A)(d:n6):Ex:=λτ S=>(d τ S).bind λf S1=>match F f S1 with
 | .ok a S2=>.ok a S2
 | _=>.no
section
variable {X:Cx}{pos p:Pos}{e:aF}{es:List aF}{x:Str}{ps:ar}{k:Nat}{F:ae->iC->R A}{d:n6}
def Lj(G:sS X.prog X.w X.K X.mg X.base k x ps F)(hr:Room k X.A)(M:AL X (e::es) d)(U:∀τ S as S',d τ S=.ok as S'->as.length=ps.length)(hg:Gl X x<|>ε)(L:(x == ("__debug__" : Str))=false<|>δ)
  (hs:starEach (e::es) X.env=(false,eval e X.env)::starEach es X.env<|>ε) (J:((backTo pos<|starEach es X.env).any (·.1)=false)<|>ε):AE X (.Call (.Name x p) (e::es) [] pos) (eFn F d):=
 PE.imp (O7 G hr M hg L hs J) λσ H Q h9=>by
  z_go;refine⟨ρ,S,τ,R,r,?_⟩;have hb:=iD h
  cases hd:d τ S with
  | no=>rw[hd]at hb;exact hb
  | ex c S1=>rw[hd]at hb;exact hb
  | ok as S1=>
   rw[hd]at hb;intro ρ1 H1 t e1 m j;rw[bJ];refine⟨by rw[<- j.length];exact U τ S as S1 hd,ρ1,S1,as,?_⟩;have hb:Am.R.post (match F as S1 with
    | .ok a S2=>.ok a S2
    | _=>.no) (tM X ρ H Q) (XE X ρ H):=hb
   cases f:F as S1 with
   | ok a S2=>rw[f]at hb;exact⟨a,S2,m,j,rfl,λg H2 v e2=>hb g H2 v<|e1.trans e2⟩
   | ex c S2=>rw[f]at hb;exact hb.elim
   | no=>rw[f]at hb;exact hb.elim
def Bp:∀τ S as S',iJ τ S=.ok as S'->as.length=0:=λτ S as S' h=>by cases h;rfl
def uI{c:Ex}{d:n6}{n:Nat}(h:∀τ S as S',d τ S=.ok as S'->as.length=n):∀τ S as S',iy c d τ S=.ok as S'->as.length=n+1:=λτ S as S' e=>by
 unfold iy at e
 cases hc:c τ S with
 | ok a S1=>
  rw[hc]at e
  cases hd:d τ S1 with
  | ok bs S2=>
   have e:R.bind (d τ S1) (λas S2=>.ok (a::as) S2)=.ok as S':=e;rw[hd]at e;cases e;rw[bz,h τ S1 bs _ hd]
  | ex _ _=>
   have e:R.bind (d τ S1) (λas S2=>.ok (a::as) S2)=.ok as S':=e;rw[hd]at e;cases e
  | no=>
   have e:R.bind (d τ S1) (λas S2=>.ok (a::as) S2)=.ok as S':=e;rw[hd]at e;cases e
 | ex _ _=>rw[hc]at e;cases e
 | no=>rw[hc]at e;cases e
end
section
variable {X:Cx}{pos:Pos}{a b c:aF}
abbrev SI (j:A->A->iC->R A)(cc:Ex)(τ:ae)(b k:A)(S:iC):R A:=match k with
 | .bl true=>(cc τ S).bind λc S4=>j b c S4
 | .bl false=>.ok (.bl false) S
 | _=>.no
abbrev O8 (f j:A->A->iC->R A)(ca cb cc:Ex):Ex:=λτ S=>(ca τ S).bind λa S1=>(cb τ S1).bind λb S2=>(f a b S2).bind λk S3=>SI j cc τ b k S3
def M7{f U:A->A->iC->R A}{ca cb cc:Ex}{H:Hp}{Q:VK}(h:tE X (O8 f U ca cb cc) σ H Q):EI (r2 X f) (r2 X U) (tE X ca) (tE X cb) (tE X cc) σ H Q:=by
 kl_no;refine⟨ρ,S,τ,R,r,iz (iD h) .refl λa S1 h1 ρ1 H1 x e1 J L=>⟨ρ1,S1,τ,J,r.ext e1,iz (iD h1) e1 λb S2 h2 t H2 y e2 R2 B=>?_⟩⟩;have g:=e1.trans e2;refine⟨t,S2,a,b,R2,L.ext e2,B,iz (iD h2) g λk S3 m ρ3 K z C F M=>?_⟩;have d:=g.trans C
 cases k with
 | bl k=>
  cases zd M
  refine⟨k,rfl,?_⟩
  cases k with
  | true=>
   rw[aR rfl];exact⟨ρ3,S3,τ,F,r.ext d,iz (iD m) d λc S4 G j N w e4 R4 v4=>⟨j,S4,b,c,R4,B.ext<|C.trans e4,v4,iz G (d.trans e4) λ_ _ q=>q.ext<|d.trans e4⟩⟩
  | false=>
   rw[aU bf];exact m ρ3 K _ d F<|.bl false
 | _=>exact m.elim
def Py{f J:A->A->iC->R A}{ca cb cc:Ex}(L:lV X (compareOp op)<|r2 X f)(j:lV X (compareOp op')<|r2 X J)(M:AE X a ca)(hb:AE X b cb)(hc:AE X c cc)(hm:lastMarks [op,op'] [b,c]=false<|>η) :
  AE X (.Compare a [op,op'] [b,c] pos) (O8 f J ca cb cc):=PE.imp (GL L j M hb hc hm) λ_ _ _ h=>M7 h
abbrev P0 (S:iC)(x:A):ae->bn
 | []=>some false
 | z::zs=>(vV S 12 z x).bind λp=>(P0 S x zs).map λq=>p || q
abbrev Q6 (j:Bool)(x y:A)(S:iC):R A:=opt (y.seq S) λys=>opt (P0 S x ys) λb=>.ok (.bl<|if j then !b else b) S
def Ax{H:Hp}{x:A}{v:aa}(I:Inv X pins σ H s)(R:Rel X.K ρ H S)(J:X.A.units+64<cLine)(hx:AV X.K ρ H x vx)(rx:RelV vx v) :
  ∀{ys:ae} {us:List V} {its:ba} {b:Bool},AVs X.K ρ H ys us->Vals us its->P0 S x ys=some b->∃e:aa->Bool,(∀w∈its,SeqAt.EqAt X.A.in1 s w v<|e w)/\its.any e=b:=by
 intro ys
 induction ys with
 | nil=>
  intro us its b h1 h2 h
  cases h1
  cases h2
  exact⟨λ_=>false,(λw hw=>by cases hw),aV h⟩
 | cons z zs m=>
  intro us its b h1 h2 h
  cases h1 with
  | cons C j=>
   rename_i u us
   cases h2 with
   | cons r F=>
    rename_i f its
    classical
    obtain⟨p,hp,h⟩:=bP.mp h;obtain⟨q,B,h⟩:=bh.mp h;obtain⟨e,g,k⟩:=m j F B;have h0:=(BN I R 12 X.A.in1 z x u vx f v p (by rw[in1_units];omega) C hx r rx hp).2.1;subst h
    cases p with
    | true=>
     refine⟨λw=>if w=f then true else e w,λw hw=>?_,?_⟩
     ·by_cases d:w=f
      ·dsimp[d,d8];exact h0
      ·dsimp[d,cY]
       rcases a_.mp hw with z|z
       ·exact absurd z d
       ·exact g w z
     ·simp
    | false=>
     by_cases hm:f∈its
     ·refine⟨e,λw hw=>?_,?_⟩
      ·rcases a_.mp hw with z|z
       ·rw[z];exact g f hm
       ·exact g w z
      ·rw[eE,k,Bool.false_or]
       cases q with
       | true=>simp
       | false=>
        have:=List.any_eq_false.mp k f hm;simpa using this
     ·refine⟨λw=>if w=f then false else e w,λw hw=>?_,?_⟩
      ·by_cases d:w=f
       ·dsimp[d,d8];exact h0
       ·dsimp[d,cY]
        rcases a_.mp hw with z|z
        ·exact absurd z d
        ·exact g w z
      ·rw[eE,<- k];dsimp[d8,Bool.false_or];have:∀l:ba,(∀w∈l,w≠f)->l.any (λw=>if w=f then false else e w)=l.any e:=λl t=>by
        induction l with
        | nil=>rfl
        | cons c l m=>rw[eE,eE,m λw hw=>t w<|aN _ hw,aU<|t c<|aM ..]
       exact this its λw hw z=>hm<|z ▸ hw
def RN(J:X.A.units+64<cLine):lV X (compareOp .In) (r2 X<|Q6 false):=λpins s σ H x y v u Q I rx ry h9=>by
 x_go;obtain⟨ys,hy,h⟩:=iF h;obtain⟨k,t,h⟩:=iF h;obtain⟨p,us,rfl,hs,r⟩:=E9 R vb hy
 cases ry
 rcases hs with hs|hs
 ·obtain⟨d,m,j,z⟩:=I.list hs;obtain⟨e,g,f⟩:=Ax I R J va rx r m t;refine SeqAt.in_listAt e j.isList (λw hw=>g w<|by simpa using hw) ⟨.bl _,H,I,rfl,?_⟩;rw[show d.toArray.any e=d.any e by simp,f];exact h _ _ _ .refl R (.bl _)
 ·obtain⟨d,m,j,z⟩:=I.tuple hs;obtain⟨e,g,f⟩:=Ax I R J va rx r m t;refine SeqAt.in_tupleAt e j (λw hw=>g w<|by simpa using hw) ⟨.bl _,H,I,rfl,?_⟩;rw[show d.toArray.any e=d.any e by simp,f];exact h _ _ _ .refl R<|.bl _
end
section
variable {X:Cx}
abbrev Dt (x:A)(S:iC):R A:=match x with
 | .ref n=>opt (iw S n) λxs=>opt (A.ints xs) λd=>.ok (.int d.sum) S
 | _=>.no
def Lo(hc:X.calm=true):jc X (.builtin "sum") (rN X<|f1 Dt):=jc.imp (D_ hc) λf H Q h0=>by
 kcf_m;clear h0
 cases hv with
 | @ref p n hp=>
  gn_on;obtain⟨d,hb,h⟩:=iF h;obtain⟨f,h1,r⟩:=R.lst hp<|iK hn;rw[oF r hb]at h1;exact⟨p,d,rfl,jR.of h1,h _ _ _ .refl R<|.int _⟩
 | _=>exact h.elim
end
abbrev jE (S:iC)(n:Nat):Option (List<|ag×A):=match S[n]? with
 | some (.dct xs)=>some xs
 | _=>none
def jx{n:Nat}(h:jE S n=some xs):S[n]?=some (.dct xs):=by
 unfold jE at h;split at h
 ·rename_i e;cases h;exact e
 ·cases h
def qW{S:iC}{n:Nat}(h:S[n]?=some (.dct xs)):jE S n=some xs:=by
 unfold jE;rw[h]
abbrev jW (kvs:List<|ag×A)(k:ag):Option A:=(kvs.find? λd=>decide<|d.1=k).map (·.2)
abbrev putD (kvs:List<|ag×A)(k:ag)(v:A):List (ag×A):=
 if (jW kvs k).isSome=true then kvs.map (λd=>if d.1=k then(d.1,v)else d)else kvs++[(k,v)]
theorem xq:∀{a b:ag},a.map (Sum.inl:Int->Key)=b.map Sum.inl->a=b
 | [],[],_=>rfl
 | [],_::_,e=>by simp at e
 | _::_,[],e=>by simp at e
 | x::xs,y::ys,e=>by
  rw[bC,bC]at e
  injection e with e1 e2
  injection e1 with e1
  rw[e1,xq e2]
def rm(ns:ag):(ns.map (Sum.inl:Int->Key)).map kV=ns.map V.int:=by rw[bL];rfl
section
variable {K:aA}{ρ:bd}{H:Hp}
def vK{p:ag×A}{r:List<|ag×A}{k:ag}(e:p.1=k):jW (p::r) k=some p.2:=by simp[jW,cz,e]
def vW{p:ag×A}{r:List<|ag×A}{k:ag}(e:¬p.1=k):jW (p::r) k=jW r k:=by simp[jW,cz,e]
theorem DV.look:∀{kvs:List<|ag×A}{ks:List<|List Key×V}(k:ag),DV K ρ H kvs ks->(jW kvs k).isSome=(mL ks<|k.map Sum.inl).isSome/\∀x,jW kvs k=some x->∃v,mL ks (k.map Sum.inl)=some v/\AV K ρ H x v
 | [],[],k,_=>⟨rfl,λx h=>nomatch h⟩
 | p::r,q::r',k,⟨⟨e,a⟩,t⟩=>by
  by_cases c:p.1=k
  ·have d:q.1=k.map Sum.inl:=by rw[e,c]
   rw[vK c,pC d];exact⟨rfl,λx h=>by cases h;exact⟨_,rfl,a⟩⟩
  ·have d:¬q.1=k.map Sum.inl:=λz=>c<|xq<|e.symm.trans z;rw[vW c,o_ d];exact DV.look k t
theorem DV.repl{x:A}{v:V}(h:AV K ρ H x v)(k:ag):∀{kvs:List<|ag×A}{ks:List<|List Key×V},DV K ρ H kvs ks->DV K ρ H (kvs.map λkv=>if kv.1=k then(kv.1,x)else kv) (ks.map λkv=>if kv.1=k.map Sum.inl then(kv.1,v)else kv)
 | [],[],_=>trivial
 | p::r,q::r',⟨⟨e,a⟩,t⟩=>by
  refine⟨?_,DV.repl h k t⟩;dsimp only;by_cases c:p.1=k
  ·rw[aR c,aR<|by rw[e,c]];exact⟨e,h⟩
  ·rw[aU c,aU λz=>c<|xq<|e.symm.trans z];exact⟨e,a⟩
theorem DV.snoc{x:A}{v:V}(h:AV K ρ H x v)(k:ag):∀{kvs:List<|ag×A}{ks:List<|List Key×V},DV K ρ H kvs ks->DV K ρ H (kvs++[(k,x)]) (ks++[(k.map Sum.inl,v)])
 | [],[],_=>⟨⟨rfl,h⟩,trivial⟩
 | p::r,q::r',⟨a,t⟩=>⟨a,DV.snoc h k t⟩
def DV.put{x:A}{v:V}(h:AV K ρ H x v)(k:ag){ks:List<|List Key×V}(d:DV K ρ H kvs ks):DV K ρ H (putD kvs k x) (putK ks (k.map Sum.inl) v):=by
 unfold putD putK;rw[rL,<- (d.look k).1];by_cases c:(jW kvs k).isSome=true
 ·rw[aR c,aR c];exact DV.repl h k d
 ·rw[aU c,aU c];exact DV.snoc h k d
def DV.length:∀{kvs:List<|ag×A}{ks:List<|List Key×V},DV K ρ H kvs ks->kvs.length=ks.length
 | [],[],_=>rfl
 | _::_,_::_,⟨_,t⟩=>cj (·+1) t.length
def Rel.dct{n:Nat}{a:aq}(R:Rel K ρ H S)(j:ρ[n]?=some a)(J:S[n]?=some (.dct xs)):∃vs,H a=some (.dT vs)/\DV K ρ H xs vs:=R.at n a _ j J
def Rel.Q4{S:iC}{p:aq}(R:Rel K ρ H S)(hp:H p=none)(r:DV K ρ H xs vs):Ext ρ (ρ++[p]) H (upd H p<|.dT vs)/\Rel K (ρ++[p]) (upd H p<|.dT vs) (S++[.dct xs])/\(ρ++[p])[S.length]?=some p:=by
 have ex:Ext ρ (ρ++[p]) H (upd H p<|.dT vs):=⟨⟨dc _ _,λa u _ h=>by rw[iB<|iM h hp];exact h⟩,λa u h _=>by rw[iB<|iM h hp];exact h,λa h=>by
  rcases bA.mp h with z|z
  ·exact .inl z
  ·have e:a=p:=by simpa using z
   rw[e];exact .inr hp⟩
 have j:p∉ρ:=R.yg hp;have d:(ρ++[p])[S.length]?=some p:=by rw[<- R.len];simp
 refine⟨ex,⟨by simp[R.len],?_,?_⟩,d⟩
 ·rw[cH];refine⟨R.nd,by simp,λa k b hb e=>?_⟩;have:b=p:=by simpa using hb
  exact j<|by rw[<- this,<- e];exact k
 ·intro n a o h1 h2;by_cases hn:n<S.length
  ·rw[aS<|by rw[R.len];exact hn]at h1;rw[aS hn]at h2;have na:a≠p:=λz=>j (by rw[<- z];exact bx h1);have:=R.at n a o h1 h2
   cases o with
   | lst ys=>obtain⟨f,e,q⟩:=this;exact⟨f,by rw[iB na];exact e,q.ext ex⟩
   | dct _|mY _|dks _|dcp _=>obtain⟨f,e,q⟩:=this;exact⟨f,by rw[iB na];exact e,q.ext ex⟩
   | dcf _|dkf _=>obtain⟨g,f,e,q⟩:=this;exact⟨g,f,by rw[iB na];exact e,q.ext ex⟩
   | ins _ _=>obtain⟨g,m,e⟩:=this;exact⟨g,m,by rw[iB na];exact e⟩
  ·have e:n=S.length:=by
    have:=(aK.mp h2).1;simp at this;omega
   subst e;rw[d]at h1
   cases h1
   simp at h2;subst h2;exact⟨vs,iW,r.ext ex⟩
def Rel.putD{S:iC}{n:Nat}{a:aq}(R:Rel K ρ H S)(J:ρ[n]?=some a)(L:S[n]?=some (.dct xs))(r:DV K ρ H ys ws):Ext ρ ρ H (upd H a<|.dT ws)/\Rel K ρ (upd H a<|.dT ws) (S.set n<|.dct ys):=by
 obtain⟨k,e,_⟩:=R.at n a _ J L;have ex:Ext ρ ρ H (upd H a<|.dT ws):=⟨⟨cI _,λb u i h=>by
  have:b≠a:=by
   intro z;subst z;rw[e]at h;cases h;exact i
  rw[iB this];exact h⟩,λb u h n=>by
  rw[iB λz=>n<|by rw[z];exact bx J];exact h,λ_ h=>.inl h⟩
 refine⟨ex,by rw[bG];exact R.len,R.nd,λm b o h1 h2=>?_⟩;by_cases hm:m=n
 ·subst hm;rw[J]at h1;cases h1;rw[bF (aK.mp L).1]at h2
  cases h2
  exact⟨ws,iW,r.ext ex⟩
 ·rw[bE<|b_ hm]at h2;have nb:b≠a:=λz=>by
   subst z;obtain⟨t,e1⟩:=aK.mp J;obtain⟨B,e2⟩:=aK.mp h1;exact hm<|(eN R.nd).mp<|e2.trans e1.symm
  have:=R.at m b o h1 h2
  cases o with
  | lst ys=>obtain⟨d,f,q⟩:=this;exact⟨d,by rw[iB nb];exact f,q.ext ex⟩
  | dct _|mY _|dks _|dcp _=>obtain⟨d,f,q⟩:=this;exact⟨d,by rw[iB nb];exact f,q.ext ex⟩
  | dcf _|dkf _=>obtain⟨g,d,f,q⟩:=this;exact⟨g,d,by rw[iB nb];exact f,q.ext ex⟩
  | ins _ _=>obtain⟨g,j,f⟩:=this;exact⟨g,j,by rw[iB nb];exact f⟩
end
section
variable {X:Cx}{pos:Pos}{a b:aF}
def KW{H:Hp}{p q:aq}{n:Nat}{ns:ag}(R:Rel X.K ρ H S)(hp:ρ[n]?=some p)(hn:jE S n=some kvs)(j:H q=some (.tup vs))(r:AVs X.K ρ H xs vs)(hi:A.ints xs=some ns) :
  ∃ks,H p=some (.dT ks)/\DV X.K ρ H kvs ks/\H q=some (.tup<|(ns.map (Sum.inl:Int->Key)).map kV)/\tR H p (.ref q) (mL ks<|ns.map Sum.inl):=by
 obtain⟨ks,e,d⟩:=R.dct hp<|jx hn;have z:=oF r hi;subst z;rw[<- rm]at j;exact⟨ks,e,d,j,tR.t e j⟩
abbrev Fi (o i v:A)(S:iC):R Unit:=match o,i with
 | .ref n,.tup xs=>opt (jE S n) λkvs=>opt (A.ints xs) λd=>gd (kvs.length<sizeLine) (.ok Unit.unit<|S.set n<|.dct<|putD kvs d v)
 | _,_=>.no
abbrev Rk (X:Cx):EN:=λo i v H Q=>∃ρ S g d f,Rel X.K ρ H S/\AV X.K ρ H g o/\AV X.K ρ H d i/\AV X.K ρ H f v/\(Fi g d f S).post (λ_ j=>∀ρ' H',Ext ρ ρ' H H'->Rel X.K ρ' H' j->Q H') (XE X ρ H)
def I_(U:X.A.units+64<cLine):Ez X (Rk X):=λpins s σ H o i v J G u Q I j F K h9=>by
 obtain⟨ρ,S,N,O,M,R,h1,h2,C,h⟩:=h9
 cases h1 with
 | @ref p n hp=>
  cases h2 with
  | @tup q xs L m r=>
   obtain⟨kvs,hn,h⟩:=iF h;obtain⟨k,hi,h⟩:=iF h;obtain⟨z,h⟩:=iY h;obtain⟨ks,e,d,f,g⟩:=KW R hp hn m r hi;obtain⟨ex,B⟩:=R.putD hp (jx hn)<|d.put C k;exact set_dict () pins s σ H _ _ v J G u Q I j F K ⟨p,_,rfl,ug.t e f<|by rw[<- d.length];exact z,h _ _ ex B⟩
  | _=>exact h.elim
 | _=>exact h.elim
abbrev Ar (co j:Ex):Tg:=λa τ S=>(co τ S).bind λo S1=>(j τ S1).bind λi S2=>(Fi o i a S2).bind λ_ S3=>.ok τ S3
def Ay(L:X.A.units+64<cLine){co J:Ex}(M:AE X o co)(hi:AE X i J)
  (U:(∀v,assign (.Subscript o i pos) X.env v=(do
   let ov <- holding [v] (eval o X.env)
   let iv <- holding [v,ov] (eval i X.env)
   standAt pos
   holding [v,ov,iv] (setItem ov iv v)
   release [v,ov,iv] []))<|>ζ):AG X (.Subscript o i pos) (Ar co J):=PG.imp (FA M hi (I_ L) U) λv σ H Q h9=>by
 obtain⟨ρ,S,τ,a,R,r,va,h⟩:=h9;refine⟨ρ,S,τ,R,r,iz (iD h) .refl λo S1 h1 ρ1 H1 x e1 g z=>⟨ρ1,S1,τ,g,r.ext e1,iz (iD h1) e1 λi S2 h2 d H2 y e2 R2 j=>?_⟩⟩;refine⟨d,S2,o,i,a,R2,z.ext e2,j,va.ext<|e1.trans e2,iz (iD h2) (e1.trans e2) λ_ S3 m ρ3 t f k=>?_⟩;exact m ρ3 t σ ((e1.trans e2).trans f) k<|r.ext<|(e1.trans e2).trans f
abbrev BU (ck cv:Ex):Ex:=λτ S=>(ck τ S).bind λk S1=>(cv τ S1).bind λv S2=>match k with
 | .tup xs=>opt (A.ints xs) λd=>.ok (.ref S2.length) (S2++[.dct [(d,v)]])
 | _=>.no
def Rel.Pd{K:aA}{H:Hp}{S:iC}{D:aq}(R:Rel K ρ H S)(J:H D=some (.dT us))(hn:D∉ρ)(r:DV K ρ H xs vs):Ext0 ρ (ρ++[D]) H (upd H D<|.dT vs)/\Rel K (ρ++[D]) (upd H D<|.dT vs) (S++[.dct xs])/\(ρ++[D])[S.length]?=some D:=by
 have ex:Ext0 ρ (ρ++[D]) H (upd H D<|.dT vs):=⟨dc _ _,λb u i h=>by
  have:b≠D:=by
   intro z;subst z;rw[J]at h;cases h;exact i
  rw[iB this];exact h⟩
 have d:(ρ++[D])[S.length]?=some D:=by rw[<- R.len];simp
 refine⟨ex,⟨by simp[R.len],?_,λn a o h1 h2=>?_⟩,d⟩
 ·rw[cH];refine⟨R.nd,by simp,λa j b hb e=>?_⟩;have:b=D:=by simpa using hb
  exact hn<|by rw[<- this,<- e];exact j
 ·by_cases hs:n<S.length
  ·rw[aS<|by rw[R.len];exact hs]at h1;rw[aS hs]at h2;have na:a≠D:=λz=>hn (by rw[<- z];exact bx h1);have:=R.at n a o h1 h2
   cases o with
   | lst ys=>obtain⟨f,e,q⟩:=this;exact⟨f,by rw[iB na];exact e,AVs.jv ex q⟩
   | dct _|mY _|dks _|dcp _=>obtain⟨f,e,q⟩:=this;exact⟨f,by rw[iB na];exact e,q.jv ex⟩
   | dcf _|dkf _=>obtain⟨g,f,e,q⟩:=this;exact⟨g,f,by rw[iB na];exact e,q.jv ex⟩
   | ins _ _=>obtain⟨g,k,e⟩:=this;exact⟨g,k,by rw[iB na];exact e⟩
  ·have e:n=S.length:=by
    have:=(aK.mp h2).1;simp at this
    lia
   subst e;rw[d]at h1
   cases h1
   simp at h2;subst h2;exact⟨vs,iW,r.jv ex⟩
def Kz(Z:X.A.units+64<cLine){k v:aF}{ck cv:Ex}(U:AE X k ck)(hv:AE X v cv):AE X (.Dict [some k] [v] pos) (BU ck cv):=PE.imp (GF () U hv) λσ H Q ⟨ρ,S,τ,R,r,h⟩ p hp=>by
 obtain⟨e0,M⟩:=R.im (u:=.dT []) hp;have B:p∉ρ:=R.yg hp;refine⟨ρ,S,τ,M,r.ext e0,iz (iD h) e0 λa S1 h1 ρ1 H1 x e1 F N=>⟨ρ1,S1,τ,F,(r.ext e0).ext e1,iz (iD h1) (e0.trans e1) λb S2 h2 m H2 y e2 R2 G=>?_⟩⟩;have d:=e1.trans e2;have f:H2 p=some (.dT []):=d.fr p _ iW B;have j:p∉m:=λhm=>(d.nw p hm).elim B λz=>by rw[iW]at z;cases z
 cases N.ext e2 with
 | @tup q xs vs C L=>
  obtain⟨g,hi,h2⟩:=iF h2;have z:=oF L hi;subst z;refine⟨f,q,g.map Sum.inl,rfl,by rw[rm];exact C,?_⟩;obtain⟨t,K,J⟩:=R2.Pd (xs:=[(g,b)]) (vs:=[(g.map Sum.inl,y)]) f j ⟨⟨rfl,G⟩,trivial⟩;refine h2 _ _ _ ⟨⟨(e0.trans d).pre.trans t.pre,λc u i hc=>t.im c u i<|(e0.trans d).im c u i hc⟩,λc u hc O=>?_,λc hc=>?_⟩ K (.ref J)
  ·rw[iB<|iM hc hp];exact(e0.trans d).fr c u hc O
  ·rcases bA.mp hc with z|z
   ·exact(e0.trans d).nw c z
   ·have:c=p:=by simpa using z
    rw[this];exact .inr hp
 | _=>exact h2.elim
abbrev dct? (a:A)(S:iC):Option Unit:=match a with
 | .ref n=>(jE S n).map λ_=>Unit.unit
 | _=>none
abbrev Dz (f:A->ae->iC->R A)(co:Ex)(d:n6):Ex:=λτ S=>(co τ S).bind λx S1=>opt (dct? x S1) λ_=>(d τ S1).bind λg S2=>f x g S2
def dct?_ty{K:aA}{H:Hp}{x:A}{v:V}(R:Rel K ρ H S)(a:AV K ρ H x v)(e:dct? x S=some u):OO K "dict" v H:=by
 cases a with
 | @ref p n h=>
  obtain⟨xs,hx,_⟩:=bh.mp e;obtain⟨d,h1,_⟩:=R.dct h<|jx hx;exact .inr<|.inr<|.inl ⟨rfl,.inr ⟨d,h1⟩⟩
 | _=>cases e
def FP{id:String}{apos cpos:Pos}{f:A->ae->iC->R A}{co:Ex}{d:n6}(slot:Slot "dict" name id)(Z:typeOf (.builtin id)=pure (.type "method_descriptor"))(hm:LH X id<|rM X f)(ho:AE X o co)(ha:AL X (e::es) d)
  (L:attributeBase o name X.env (eval o X.env)=eval o X.env<|>ε)
  (U:(((backTo cpos<|starEach (e::es) X.env).all (λx=>!x.1) && (backToKw cpos<|keywordEach [] X.env).all (λx=>x.1.isSome)
   && decide ((e::es).length+([]:List Keyword).length+(if ([]:List Keyword).isEmpty then 0 else 1)<30))=true)<|>ε)
  (M:(apos.endLine == cpos.line)=true<|>ε) (hs:starEach (e::es) X.env=(false,eval e X.env)::starEach es X.env<|>ε) (J:((backTo cpos<|starEach es X.env).any (·.1)=false)<|>ε) :
  AE X (.Call (.Attribute o name apos) (e::es) [] cpos) (Dz f co d):=PE.imp (L_ PySem.F.plainAttrs_dict slot Z hm ho ha L U M hs J) λσ H Q h9=>by
 z_go;refine⟨ρ,S,τ,R,r,iz (iD h) .refl λx S1 h1 ρ1 H1 v e1 j k=>?_⟩;obtain⟨xs,hx,h1⟩:=iF h1;refine⟨dct?_ty j k hx,ρ1,S1,τ,j,r.ext e1,iz (iD h1) e1 λt S2 h2 g H2 B e2 R2 m=>?_⟩;exact⟨g,S2,x,t,R2,k.ext e2,m,iz h2 (e1.trans e2) λ_ _ z=>z.ext<|e1.trans e2⟩
abbrev z8 (o:A)(j:ae)(S:iC):R A:=match o,j with
 | .ref n,[.tup xs,y]=>opt (jE S n) λkvs=>opt (A.ints xs) λk=>.ok ((jW kvs k).getD y) S
 | _,_=>.no
def LJ(U:X.A.units+64<cLine):LH X "dict.get" (rM X z8):=λpins s σ H x M v us Q I rx K h9=>by
 obtain⟨ρ,S,o,F,R,k,va,h⟩:=h9
 cases k with
 | @ref p n hp=>
  match F,va,h with
  | [],_,h=>exact h.elim
  | [z],_,h=>exact(by cases z<;>exact h.elim)
  | z::_::_::_,_,h=>exact(by cases z<;>exact h.elim)
  | [z,y],va,h=>
   obtain⟨L,g,rfl,B,hy⟩:=PK va
   cases B with
   | @tup q xs N j C=>
    obtain⟨kvs,hn,h⟩:=iF h;obtain⟨d,hi,h⟩:=iF h;have z:=oF C hi;subst z;obtain⟨ks,h1,m⟩:=R.dct hp<|jx hn;refine JL (by omega) pins s σ H _ _ v us Q I rx K ⟨p,q,d.map Sum.inl,ks,g,rfl,rfl,h1,by rw[rm];exact j,h _ _ _ .refl R ?_⟩;obtain⟨f,G⟩:=m.look d
    cases e1:jW kvs d with
    | none=>
     rw[e1]at f
     cases e2:mL ks (d.map Sum.inl)with
     | none=>exact hy
     | some _=>rw[e2]at f;cases f
    | some t=>
     obtain⟨O,e2,J⟩:=G t e1;rw[e2];exact J
   | _=>exact h.elim
 | _=>exact h.elim
end
section
variable {X:Cx}{pos:Pos}{a b:aF}
abbrev vQ (n m k:Nat):Src:=⟨k,λi S=>(iw S n).bind λxs=>(iw S m).bind λys=>(xs[i]?).bind λx=>(ys[i]?).map λy=>.tup [x,y],λS=>match iw S n,iw S m with
 | some xs,some ys=>decide (xs.length<=k) || decide (ys.length<=k)
 | _,_=>false⟩
abbrev RQ (a b:A)(S:iC):R Src:=match a,b with
 | .ref n,.ref m=>opt (iw S n) λxs=>opt (iw S m) λys=>.ok (vQ n m<|min xs.length ys.length) S
 | _,_=>.no
abbrev v5 (c d:Ex):Ic:=λτ S=>(c τ S).bind λa S1=>(d τ S1).bind λb S2=>RQ a b S2
def MO{K:aA}{U:bd}{H0:Hp}{p q:aq}{n m k:Nat}(hp:U[n]?=some p)(Z:U[m]?=some q):JR K (vQ n m k) (Rc K p q) U H0 where
 go:=λi S H ρ x e R g=>by
  obtain⟨xs,hn,g⟩:=bP.mp g;obtain⟨ys,hm,g⟩:=bP.mp g;obtain⟨M,hx,g⟩:=bP.mp g;obtain⟨L,hy,rfl⟩:=bh.mp g;obtain⟨d,h1,r1⟩:=R.lst (e.get hp)<|iK hn;obtain⟨f,h2,r2⟩:=R.lst (e.get Z)<|iK hm;obtain⟨v,ev,B⟩:=r1.get hx;obtain⟨w,t,J⟩:=r2.get hy;refine⟨⟨d,f,v,w,jR.of h1,jR.of h2,ev,t⟩,λu H' z=>?_⟩;obtain⟨T,G,rfl,F⟩:=z;have j:=F d f v w (jR.of h1) (jR.of h2) ev t;subst j;obtain⟨ex,C⟩:=R.im (u:=.tup [v,w]) G;exact⟨ex,C,.tup iW<|.cons (B.ext ex)<|.cons (J.ext ex) .nil⟩
 stop:=λS H ρ e R hf=>by
  have hf:(match iw S n,iw S m with
   | some xs,some ys=>decide (xs.length<=k) || decide (ys.length<=k)
   | _,_=>false)=true:=hf
  cases hn:iw S n with
  | none=>rw[hn]at hf;cases hf
  | some xs=>
   cases hm:iw S m with
   | none=>rw[hn,hm]at hf;cases hf
   | some ys=>
    rw[hn,hm]at hf;obtain⟨d,h1,r1⟩:=R.lst (e.get hp)<|iK hn;obtain⟨f,h2,r2⟩:=R.lst (e.get Z)<|iK hm;refine⟨d,f,jR.of h1,jR.of h2,?_⟩;rw[di,di,<- r1.length,<- r2.length];have hf:(decide (xs.length<=k) || decide (ys.length<=k))=true:=hf;rw[g_,fK,fK]at hf;exact hf
def MI{p:Pos}{c d:Ex}(hm:X.mg "zip" = none)(M:AE X a c)(hb:AE X b d)(hg:Gl X "zip"<|>ε)(hs:starEach [a,b] X.env=(false,eval a X.env)::starEach [b] X.env<|>ε)(J:starEach [b] X.env=[(false,eval b X.env)]<|>ε)(L:((backTo pos<|starEach [b] X.env).any (·.1)=false)<|>ε) :
  AI X (.Tuple elts x1 tpos) (.Call (.Name "zip" p) [a,b] [] pos) (v5 c d):=λpins s σ H Q I h9=>by
 z_go;refine Mu hg hm (k9 M (k9 hb rV J) hs) hs L pins s σ H Q I ⟨ρ,S,τ,R,r,iz (iD h) .refl λx S1 h1 ρ1 H1 v e1 B F=>⟨ρ1,S1,τ,B,r.ext e1,iz (iD h1) e1 λy S2 h2 j H2 w e2 R2 C=>?_⟩⟩;have g:=F.ext e2
 cases g with
 | @ref p n hp=>
  cases C with
  | @ref q m k=>
   obtain⟨xs,hn,h2⟩:=iF h2;obtain⟨ys,f,h2⟩:=iF h2;obtain⟨t,g1,r1⟩:=R2.lst hp<|iK hn;obtain⟨z,g2,r2⟩:=R2.lst k<|iK f;exact⟨_,_,t,z,rfl,jR.of g1,jR.of g2,h2 j H2 _ (e1.trans e2) R2<|MO hp k⟩
  | _=>exact h2.elim
 | _=>exact h2.elim
def IM{c d:Ex}{n:Nat}{xs ys:ae}(h1:c τ S=.ok (.ref n) S1)(h2:d τ S1=.ok (.ref m) S2)(hn:iw S2 n=some xs)(hm:iw S2 m=some ys):v5 c d τ S=.ok (vQ n m<|min xs.length ys.length) S2:=by
 unfold v5;rw[h1];show(d τ S1).bind _=_;rw[h2];show opt (iw S2 n) _=_;rw[hn]
 skip
 rw[hm];rfl
end
section
variable {X:Cx}{pos:Pos}{a b:aF}
abbrev o8 (n k:Nat):Src:=⟨k,λi S=>(iw S n).bind λxs=>(xs[i]?).map λx=>.tup [.int i,x],λS=>match iw S n with
 | some ys=>decide (ys.length=k)
 | none=>false⟩
abbrev Tj (a:A)(S:iC):R Src:=match a with
 | .ref n=>opt (iw S n) λxs=>.ok (o8 n xs.length) S
 | _=>.no
abbrev DQ (c:Ex):Ic:=λτ S=>(c τ S).bind λa S1=>Tj a S1
def Nq{K:aA}{J:bd}{L:Hp}{p:aq}{n k:Nat}(hp:J[n]?=some p):JR K (o8 n k) (M8 K p) J L where
 go:=λi S H ρ x e R g=>by
  obtain⟨xs,hn,g⟩:=bP.mp g;obtain⟨y,hy,rfl⟩:=bh.mp g;obtain⟨d,h1,r1⟩:=R.lst (e.get hp)<|iK hn;obtain⟨v,ev,m⟩:=r1.get hy;refine⟨⟨d,v,jR.of h1,ev⟩,λw H' q=>?_⟩;obtain⟨B,f,rfl,z⟩:=q;have j:=z d v (jR.of h1) ev;subst j;obtain⟨ex,t⟩:=R.im (u:=.tup [.int i,v]) f;exact⟨ex,t,.tup iW<|.cons (.int _)<|.cons (m.ext ex) .nil⟩
 stop:=λS H ρ e R hf=>by
  have hf:(match iw S n with
   | some ys=>decide (ys.length=k)
   | none=>false)=true:=hf
  cases hn:iw S n with
  | none=>rw[hn]at hf;cases hf
  | some xs=>
   rw[hn]at hf;obtain⟨d,h1,r1⟩:=R.lst (e.get hp)<|iK hn;exact⟨d,jR.of h1,by rw[<- r1.length];exact gK hf⟩
def EH{p:Pos}{c:Ex}(hm:X.mg "enumerate" = none)(j:AE X a c)(hg:Gl X "enumerate"<|>ε)(hs:starEach [a] X.env=[(false,eval a X.env)]<|>ε):AI X (.Tuple elts x1 tpos) (.Call (.Name "enumerate" p) [a] [] pos) (DQ c):=λpins s σ H Q I h9=>by
 z_go;refine Fq hg hm (k9 j rV hs) hs pins s σ H Q I ⟨ρ,S,τ,R,r,iz (iD h) .refl λx S1 h1 ρ1 H1 v e1 d g=>?_⟩
 cases g with
 | @ref p n hp=>
  obtain⟨xs,hn,h1⟩:=iF h1;obtain⟨f,g1,r1⟩:=d.lst hp<|iK hn;exact⟨_,f,rfl,jR.of g1,h1 ρ1 H1 _ e1 d<|Nq hp⟩
 | _=>exact h1.elim
def By{c:Ex}{n:Nat}{xs:ae}(h:c τ S=.ok (.ref n) S1)(hn:iw S1 n=some xs):DQ c τ S=.ok (o8 n xs.length) S1:=by
 unfold DQ;rw[h];show opt (iw S1 n) _=_;rw[hn];rfl
theorem LX{K:aA}{H:Hp}:∀{kvs:List<|ag×A}{ks:List<|List Key×V}{i:Nat}{p:ag×A},DV K ρ H kvs ks->kvs[i]?=some p->∃q,ks[i]?=some q/\q.1=p.1.map Sum.inl/\AV K ρ H p.2 q.2
 | [],[],_,_,_,h=>by simp at h
 | a::kvs,b::ks,0,p,⟨z,_⟩,h=>by
  have:a=p:=by simpa using h
  subst this;exact⟨b,rfl,z⟩
 | a::kvs,b::ks,i+1,p,⟨_,t⟩,h=>LX (kvs:=kvs) (ks:=ks) (i:=i) t<|by simpa using h
def Rel.gone{K:aA}{H:Hp}{S:iC}{n:Nat}{a:aq}(R:Rel K ρ H S)(J:ρ[n]?=some a)(L:S[n]?=some (.dct xs)):Ext ρ ρ H (upd H a<|.frz o u)/\Rel K ρ (upd H a<|.frz o u) (S.set n<|.ins "" []):=by
 obtain⟨t,e,_⟩:=R.at n a _ J L;have ex:Ext ρ ρ H (upd H a<|.frz o u):=⟨⟨cI _,λb k i h=>by
  have:b≠a:=by
   intro z;subst z;rw[e]at h;cases h;exact i
  rw[iB this];exact h⟩,λb k h nb=>by
  rw[iB λz=>nb<|by rw[z];exact bx J];exact h,λ_ h=>.inl h⟩
 refine⟨ex,by rw[bG];exact R.len,R.nd,λm b ob h1 h2=>?_⟩;by_cases hm:m=n
 ·subst hm;rw[J]at h1;cases h1;rw[bF (aK.mp L).1]at h2
  cases h2
  exact⟨o,u,iW⟩
 ·rw[bE<|b_ hm]at h2;have nb:b≠a:=λz=>by
   subst z;obtain⟨B,e1⟩:=aK.mp J;obtain⟨C,e2⟩:=aK.mp h1;exact hm<|(eN R.nd).mp<|e2.trans e1.symm
  have:=R.at m b ob h1 h2
  cases ob with
  | lst ys=>obtain⟨d,f,q⟩:=this;exact⟨d,by rw[iB nb];exact f,q.ext ex⟩
  | dct _|mY _|dks _|dcp _=>obtain⟨d,f,q⟩:=this;exact⟨d,by rw[iB nb];exact f,q.ext ex⟩
  | dcf _|dkf _=>obtain⟨g,d,f,q⟩:=this;exact⟨g,d,by rw[iB nb];exact f,q.ext ex⟩
  | ins _ _=>obtain⟨g,j,f⟩:=this;exact⟨g,j,by rw[iB nb];exact f⟩
end
abbrev lE (s:Src)(g:Tg)(t:Te)(e:Ex):Nat->Nat->ae->iC->R (ae×ae)
 | 0,_=>λτ S=>if s.fin S then .ok ([],τ) S else .no
 | k+1,i=>λτ S=>opt (s.get i S) λx=>(g x τ S).jb λτ1 S1=>(t τ1 S1).jb λb S2=>match b with
  | true=>(e τ1 S2).jb λy S3=>(lE s g t e k (i+1) τ1 S3).jb λp S4=>.ok (y::p.1,p.2) S4
  | false=>lE s g t e k (i+1) τ1 S2
abbrev kj (s:Src)(g:Tg)(t:Te)(src2:Ic)(g2:Tg)(t2:Te)(e:Ex):Nat->Nat->ae->iC->R (ae)
 | 0,_=>λ_ S=>if s.fin S then .ok [] S else .no
 | k+1,i=>λτ S=>opt (s.get i S) λx=>(g x τ S).jb λτ1 S1=>(t τ1 S1).jb λb S2=>match b with
  | true=>(src2 τ1 S2).jb λd S3=>(lE d g2 t2 e d.k 0 τ1 S3).jb λp S4=>(kj s g t src2 g2 t2 e k (i+1) p.2 S4).jb λys S5=>.ok (p.1++ys) S5
  | false=>kj s g t src2 g2 t2 e k (i+1) τ1 S2
abbrev xj (cap:List<|bo)(src:Ic)(g:Tg)(t:Te)(src2:Ic)(g2:Tg)(t2:Te)(e:Ex):Ex:=λτ S=>(src τ S).bind λs S1=>(kj s g t src2 g2 t2 e s.k 0 (lA cap τ) S1).jb λys S2=>newL ys S2
def zk{s:Src}{g:Tg}{t:Te}{e:Ex}{k:Nat}{T:Prop}(h:lE s g t e (k+1) i τ S=.ok (zs,τ') S')
  (q:∀x τ1 S1 b S2,s.get i S=some x->g x τ S=.ok τ1 S1->t τ1 S1=.ok b S2->(b=true->∃y S3 ws,e τ1 S2=.ok y S3/\lE s g t e k (i+1) τ1 S3=.ok (ws,τ') S'/\zs=y::ws)->(b=false->lE s g t e k (i+1) τ1 S2=.ok (zs,τ') S')->T):T:=by
 obtain⟨x,hx,h⟩:=sP h;obtain⟨τ1,S1,h1,h⟩:=i6 h;obtain⟨b,S2,h2,h⟩:=i6 h;mg_lt
 ·subst hb;obtain⟨y,S3,d,h⟩:=i6 h;obtain⟨⟨ws,j⟩,S4,f,h⟩:=i6 h
  cases h
  exact⟨y,S3,ws,d,f,rfl⟩
 ·subst hb;exact h
def xP{s:Src}{g:Tg}{t:Te}{src2:Ic}{g2:Tg}{t2:Te}{e:Ex}{k:Nat}{T:Prop}(h:kj s g t src2 g2 t2 e (k+1) i τ S=.ok zs S')
  (q:∀x τ1 S1 b S2,s.get i S=some x->g x τ S=.ok τ1 S1->t τ1 S1=.ok b S2->(b=true->∃s2 S3 ps τ2 S4 ws,src2 τ1 S2=.ok s2 S3/\lE s2 g2 t2 e s2.k 0 τ1 S3=.ok (ps,τ2) S4/\kj s g t src2 g2 t2 e k (i+1) τ2 S4=.ok ws S'/\zs=ps++ws)->(b=false->kj s g t src2 g2 t2 e k (i+1) τ1 S2=.ok zs S')->T):T:=by
 obtain⟨x,hx,h⟩:=sP h;obtain⟨τ1,S1,h1,h⟩:=i6 h;obtain⟨b,S2,h2,h⟩:=i6 h;mg_lt
 ·subst hb;obtain⟨s2,S3,j,h⟩:=i6 h;obtain⟨⟨ps,τ2⟩,S4,f,h⟩:=i6 h;obtain⟨ws,S5,d,h⟩:=i6 h
  cases h
  exact⟨s2,S3,ps,τ2,S4,ws,j,f,d,rfl⟩
 ·subst hb;exact h
abbrev QD (K:aA)(c:Ic):TI:=λσ H Q=>∃ρ S τ s d,Rel K ρ H S/\SR K ρ H τ σ/\c τ S=.ok s d/\∀ρ' H' J,Ext ρ ρ' H H'->Rel K ρ' H' d->JR K s J ρ' H'->Q J H'
section
variable {X:Cx}{pos:Pos}{tg iter tg2 iter2 elt e:aF}{ifs ifs2:List aF}{scope:Scope}{N:ar}{cap:List (bo)}{src src2:Ic}{g g2:Tg}{t t2:Te}{c:Ex}
def AI.i0{K:aA}(hK:X.K=K)(h:AI X tg e src):PI X tg e (QD K src):=λpins s σ H Q I ⟨ρ,S,τ,a,g,R,r,hc,q⟩=>h pins s σ H Q I ⟨ρ,S,τ,by rw[hK];exact R,by rw[hK];exact r,by rw[hc];exact λρ' H' J e d f=>q ρ' H' J e (by rw[<- hK];exact d)<|by rw[<- hK];exact f⟩
def Ey(hc:X.calm=true)(Sc:CpScope X scope N cap)(hi:AI X tg iter src)(hg:∀C s₀ H₀ ex,AG (iU X scope N C s₀ H₀ ex) tg g)(ht:∀C s₀ H₀ ex,LQ (iU X scope N C s₀ H₀ ex) ifs t)(hi2:∀C s₀ H₀ ex,AI (iU X scope N C s₀ H₀ ex) tg2 iter2 src2)
  (hg2:∀C s₀ H₀ ex,AG (iU X scope N C s₀ H₀ ex) tg2 g2) (ht2:∀C s₀ H₀ ex,LQ (iU X scope N C s₀ H₀ ex) ifs2 t2) (he:∀C s₀ H₀ ex,AE (iU X scope N C s₀ H₀ ex) elt c)
  (hs:(∀x,foldedSetIterable iter X.env x=pure x)<|>ζ) (hs2:∀env x,foldedSetIterable iter2 env x=pure x:=by intro _ _;rfl):AE X (.ListComp elt [⟨tg,iter,ifs,0⟩,⟨tg2,iter2,ifs2,0⟩] scope pos) (xj cap src g t src2 g2 t2 c):=by
 refine PE.imp (M5 hc Sc hi (g:=IZ X.K g) (tc:=Hq X.K t) (wi2:=QD X.K src2) (g2:=IZ X.K g2) (tc2:=Hq X.K t2) (te:=Jd X.K c) (λC s₀ H₀ ex=>(hg C s₀ H₀ ex).g0 rfl) (λC s₀ H₀ ex=>ht C s₀ H₀ ex) (λC s₀ H₀ ex=>(hi2 C s₀ H₀ ex).i0 rfl) (λC s₀ H₀ ex=>(hg2 C s₀ H₀ ex).g0 rfl) (λC s₀ H₀ ex=>ht2 C s₀ H₀ ex) (λC s₀ H₀ ex=>(he C s₀ H₀ ex).e0 rfl) hs hs2) λσ H Q h9=>?_;z_go;refine⟨ρ,S,τ,R,r,iz (iD h) .refl λs S1 h1 ρ1 H1 J e1 R1 jr D hD=>?_⟩;obtain⟨ys,S2,hcg,h1⟩:=qC h1;obtain⟨hlen,h1⟩:=iY h1;have h1:tM X ρ H Q (.ref S2.length) (S2++[.lst ys]):=h1;obtain⟨eD,RD⟩:=R1.im (u:=.lst []) hD;refine⟨Cq X.K ρ1 H1 D ys s.k (λ_ _=>True) λm i τ S zs=>kj s g t src2 g2 t2 c m i τ S=.ok zs S2,⟨s.k,.of rfl ⟨eD.toExt0,λa u na hu _=>by rw[iB na];exact hu,λa ha=>.inl ha,R1.yg hD,iW⟩ trivial RD (Gj ((r.ext e1).ext eD) cap) .nil hcg rfl⟩,?_⟩;intro i m σ3 H3 hw;refine hw.el λρ3 S3 τ3 acc zs accV hm o3 _ R3 r3 ac3 f L=>?_;clear hw
 cases m with
 | zero=>
  left;have f:(if s.fin S3 then Am.R.ok [] S3 else .no)=.ok zs S2:=f
  cases hf:s.fin S3 with
  | false=>rw[hf]at f;cases f
  | true=>
   rw[hf]at f
   cases f
   rw[bJ]at L;subst L;refine⟨by rw[show i=s.k by lia];exact jr.stop _ H3 ρ3 o3.e0 R3 hf,?_⟩;obtain⟨RT,gt⟩:=R3.take o3.hD o3.nD ac3;exact h1 (ρ3++[D]) H3 _ (e1.trans<|o3.end hD) RT<|.ref gt
 | succ m=>
  right;refine xP f λx τ4 S4 b S5 hx hg4 ht5 hT hF=>?_;have jg:=jr.go i S3 H3 ρ3 x o3.e0 R3 hx;refine⟨jg.1,λv H4 y=>?_⟩;obtain⟨e4,R4,v4⟩:=jg.2 v H4 y;gp_on;have e36:=(e4.trans e5).trans e6
  cases b with
  | false=>
   dsimp only;rw[aU bf];exact⟨m,bD _,.of () (o3.stay hD e36) trivial R6 (r5.ext e6) (ac3.ext e36) (hF rfl) L⟩
  | true=>
   dsimp only;rw[aR rfl];obtain⟨s2,S6,ps,τ7,S7,ws,hs6,ci7,co7,ezs⟩:=hT rfl;refine⟨ρ6,S5,τ4,s2,S6,R6,r5.ext e6,hs6,λρ8 H8 J2 e8 R8 jr2=>?_⟩;have e38:=e36.trans e8;refine⟨Cq X.K ρ1 H1 D (acc++ps) s2.k (λρ' H'=>Ext0 ρ8 ρ' H8 H') λm i τ S qs=>lE s2 g2 t2 c m i τ S=.ok (qs,τ7) S7,⟨s2.k,.of rfl (o3.stay hD e38) ⟨cI _,λ_ _ _ h=>h⟩ R8 (r5.ext<|e6.trans e8) (ac3.ext e38) ci7 rfl⟩,?_⟩;intro i2 m2 σ9 H9 hw;refine hw.el λρ9 S9 τ9 acc9 qs O hm2 o9 Y R9 r9 W j M=>?_;clear hw
   cases m2 with
   | zero=>
    left;have j:(if s2.fin S9 then Am.R.ok ([],τ9) S9 else .no)=.ok (qs,τ7) S7:=j
    cases hf:s2.fin S9 with
    | false=>rw[hf]at j;cases j
    | true=>
     rw[hf]at j
     cases j
     rw[bJ]at M;subst M;exact⟨by rw[show i2=s2.k by lia];exact jr2.stop _ H9 ρ9 Y R9 hf,m,bD _,.of () o9 trivial R9 r9 W co7<|by rw[bg,<- ezs,L]⟩
   | succ m2=>
    right;refine zk j λx9 B S10 b10 S11 hx9 hg10 ht11 hT9 hF9=>?_;have jg2:=jr2.go i2 S9 H9 ρ9 x9 Y R9 hx9;refine⟨jg2.1,λv10 H10 y10=>?_⟩;obtain⟨e10,R10,v10'⟩:=jg2.2 v10 H10 y10;refine⟨ρ9,S9,τ9,x9,B,S10,R10,r9.ext e10,v10',hg10,λρ11 H11 σ11 e11 R11 V=>⟨ρ11,S10,B,b10,S11,R11,V,ht11,λZ H12 P R12=>?_⟩⟩;have d:=(e10.trans e11).trans P;have o12:=o9.stay hD d;have F:Ext0 ρ8 Z H8 H12:=⟨Y.pre.trans d.pre,λa u i h=>d.im a u i<|Y.im a u i h⟩
    cases b10 with
    | false=>
     dsimp only;rw[aU bf];exact⟨m2,bD _,.of () o12 F R12 (V.ext P) (W.ext d) (hF9 rfl) M⟩
    | true=>
     dsimp only;rw[aR rfl];obtain⟨y,S13,us,he13,ci13,eus⟩:=hT9 rfl;refine⟨Z,S11,B,y,S13,R12,V.ext P,he13,λρ14 H14 w G R14 v14=>?_⟩;have U:=o12.stay hD G;obtain⟨z,R15⟩:=R14.out (ws:=O++[w]) U.hD U.nD;have l1:=W.length;refine⟨O,U.hD,?_,m2,bD _,.of () (U.put z) ⟨F.pre.trans G.pre,λa u i h=>z.im a u i<|G.im a u i<|F.im a u i h⟩ R15 ((V.ext<|P.trans G).jv z) (AVs.jv z<|(W.ext<|d.trans G).append<|.one v14) ci13 ?_⟩
     ·have:((acc++ps)++ws).length<=sizeLine:=by rw[bg,<- ezs,L];exact hlen
      rw[<- M,eus,aY,aY,bz]at this
      lia
     ·rw[bg,<- M,eus];rfl
end
abbrev R_ (F:ae->iC->R A)(d:n6):Ex:=λτ S=>(d τ S).bind λf S1=>F f S1
abbrev KL:List (Str ⊕ Ex)->ae->iC->R Unit
 | [],_,S=>.ok Unit.unit S
 | .inl _::ps,τ,S=>KL ps τ S
 | .inr e::ps,τ,S=>(e τ S).bind λv S1=>match v with
  | .int i=>gd (i.natAbs.log2<64) (KL ps τ S1)
  | _=>.no
abbrev Nf (c:Str)(ps:List<|Str ⊕ Ex):Sm:=λτ S=>.of (KL ps τ S) λ_ S1=>.ex c S1
abbrev Lx (i:Nat):RS->RS
 | .nx τ S=>.nx (τ.set i .unb) S
 | .bk τ S=>.bk (τ.set i .unb) S
 | .ct τ S=>.ct (τ.set i .unb) S
 | .rt a S=>.rt a S
 | _=>.no
abbrev OX (i n:Nat)(cs:ar)(c d:Sm):Sm:=λτ S=>match c τ S with
 | .ex x S1=>if x∈cs then Lx i (d ((List.replicate n .unb).set i<|.exn x) S1)else .no
 | r=>r
abbrev Q3 (f:Str->bn)(c:Ex):Ex:=λτ S=>(c τ S).bind λv S1=>match v with
 | .exn x=>opt (f x) λb=>.ok (.bl b) S1
 | _=>.no
abbrev Tw (tb:List<|Str×Bool):Str->bn:=λx=>tb.lookup x
abbrev Qk (F:ae->iC->R A)(d:n6):Ex:=λτ S=>match d τ S with
 | .ok f S1=>F f S1
 | _=>.no
section
variable {d:n6}
abbrev Pa (t:Te)(c d:Sm):Sm:=λτ S=>match t τ S with
 | .ok true S1=>c τ S1
 | .ok false S1=>d τ S1
 | _=>.no
end
abbrev Lz (i:Nat)(cs:ar)(c d:Sm):Sm:=λτ S=>match c τ S with
 | .ex x S1=>if x∈cs then Lx i (d (τ.set i<|.exn x) S1)else .no
 | r=>r
abbrev Si:Sm:=λ_ _=>.no
def PN{st:aG}:AS X st Si:=PS.imp F7 λD σ H ⟨ρ,S,τ,R,r,h⟩=>h.elim
def DK{K:aA}{H:Hp}{a:aq}{ns:ag}{F:ae->iC->R A}(j:KS H)(J:jR K H a<|ns.map V.int)(h:∃S',F [.frz<|ns.map .int] []=.ok (.bl true) S'):qO K 1 F [.ref a] H (λv _=>v=.bl true) λ_ _ _=>False:=by
 obtain⟨S',h⟩:=h;have fz:Fz K H a (ns.map V.int):=by
  rcases J with(h|⟨o,h⟩)|h
  ·rcases j a with z|⟨ob,xs,z⟩
   ·rw[h]at z;cases z
   ·rw[h]at z;cases z
  ·exact .inl ⟨o,h⟩
  ·exact .inr h
 exact⟨rfl,[],[],_,_,S',⟨rfl,List.nodup_nil,λn a o h=>by simp at h⟩,.cons (.frz fz<|pQ ns) .nil,h,λρ' H' v _ _ hv=>zd hv⟩
def I0{P:ba->Prop}(h:∀a0,P [a0]):∀us:ba,us.length=1->P us
 | [_],_=>h _
def BF{P:ba->Prop}(h:∀a0 a1,P [a0,a1]):∀us:ba,us.length=2->P us
 | [_,_],_=>h _ _
end Am
namespace Am
open PySem L2
section
variable {α β:Type}{a b:A}{S S1:iC}{τ:ae}{x:α}
@[simp]def R.jK {f:α->iC->R β}:(R.ok x S).bind f=f x S:=rfl
@[simp]def R.CY {f:α->iC->R β}{c:Str}:(R.ex c S:R α).bind f=.ex c S:=rfl
@[simp]def R.i8 {f:α->iC->R β}:(R.ok x S).jb f=f x S:=rfl
@[simp]def RS.of_ok {f:α->iC->RS}:RS.of (R.ok x S) f=f x S:=rfl
@[simp]def RS.LL {f:α->iC->RS}{c:Str}:RS.of (R.ex c S:R α) f=.ex c S:=rfl
@[simp]def iP {f:β->R α}{y:β}:opt (some y) f=f y:=rfl
@[simp]def CN {r:R α}:gd True r=r:=aR trivial
theorem jZ{c:Prop}[Decidable c]{r:R α}(h:c):gd c r=r:=aR h
@[simp]def lZ {i:Nat}:iu i τ S=bif (τ.getD i .unb).kQ then .no else .ok (τ.getD i .unb) S:=by unfold iu;cases(τ.getD i .unb).kQ<;>rfl
@[simp]def B8 {xs:ae}:A.kQ (.tup xs)=false:=rfl
@[simp]def CT {xs:ae}:A.kQ (.frz xs)=false:=rfl
@[simp]def Bj {i:Int}:A.kQ (.int i)=false:=rfl
@[simp]def Fy {i:Bool}:A.kQ (.bl i)=false:=rfl
@[simp]def Ck {i:Str}:A.kQ (.str i)=false:=rfl
@[simp]def CJ {i:Nat}:A.kQ (.ref i)=false:=rfl
@[simp]def Ce:A.kQ .non=false:=rfl
@[simp]def CQ {i j:Int}:A.kQ (.rng i j)=false:=rfl
@[simp]def Bw {c:Str}:A.kQ (.exn c)=false:=rfl
@[simp]def Lq:eC a τ S=.ok a S:=rfl
abbrev PJ (f:A->A->iC->R A)(cb:Ex)(τ:ae)(a:A)(S:iC):R A:=(cb τ S).bind<|f a
@[simp]def Bs {f:A->A->iC->R A}{cb:Ex}:PJ f cb τ a S=(cb τ S).bind (f a):=rfl
@[simp]def Cj {f:A->A->iC->R A}{ca cb:Ex}:iL f ca cb τ S=(ca τ S).bind (PJ f cb τ):=rfl
@[simp]def Ib {f:A->iC->R A}{ca:Ex}:Ln f ca τ S=(ca τ S).bind f:=rfl
@[simp]def Cc {c:Ex}:vt c τ S=(c τ S).bind λa S1=>opt (a.P6 S1) λb=>.ok b S1:=rfl
abbrev aB (a:A)(S:iC):R Bool:=match a with
 | .bl b=>.ok b S
 | _=>.no
@[simp]def Lg {b:Bool}:aB (.bl b) S=.ok b S:=rfl
@[simp]def GQ {c:Ex}:p_ c τ S=(c τ S).bind aB:=rfl
@[simp]def Bb {c:Te}:ze c τ S=(c τ S).bind λb S1=>.ok (!b) S1:=rfl
abbrev MN (d:Te)(τ:ae)(b:Bool)(S:iC):R Bool:=match b with|true=>d τ S|false=>.ok false S
abbrev Rp (d:Te)(τ:ae)(b:Bool)(S:iC):R Bool:=match b with|true=>.ok true S|false=>d τ S
@[simp]def Er {d:Te}:MN d τ true S=d τ S:=rfl
@[simp]def EW {d:Te}:MN d τ false S=.ok false S:=rfl
@[simp]def Ls {d:Te}:Rp d τ true S=.ok true S:=rfl
@[simp]def K5 {d:Te}:Rp d τ false S=d τ S:=rfl
@[simp]def BO {c d:Te}:vB c d τ S=(c τ S).bind (MN d τ):=rfl
@[simp]def Fx {c d:Te}:LC c d τ S=(c τ S).bind (Rp d τ):=rfl
@[simp]def BL:jF τ S=.ok true S:=rfl
abbrev Ht (d:Ex)(τ:ae)(a:A)(S:iC):R A:=match a with | .bl true=>d τ S | .bl false=>.ok (.bl false) S|_=>.no
abbrev N5 (d:Ex)(τ:ae)(a:A)(S:iC):R A:=match a with | .bl true=>.ok (.bl true) S | .bl false=>d τ S|_=>.no
@[simp]def Cf {d:Ex}:Ht d τ (.bl true) S=d τ S:=rfl
@[simp]def BR {d:Ex}:Ht d τ (.bl false) S=.ok (.bl false) S:=rfl
@[simp]def HE {d:Ex}:N5 d τ (.bl true) S=.ok (.bl true) S:=rfl
@[simp]def Em {d:Ex}:N5 d τ (.bl false) S=d τ S:=rfl
@[simp]def AA {c d:Ex}:vq c d τ S=(c τ S).bind (Ht d τ):=by
 unfold vq
 cases c τ S with
 | ok a S1=>cases a<;>first|rfl|(rename_i b;cases b<;>rfl)
 | _=>rfl
@[simp]def Gq {c d:Ex}:Sz c d τ S=(c τ S).bind (N5 d τ):=by
 unfold Sz
 cases c τ S with
 | ok a S1=>cases a<;>first|rfl|(rename_i b;cases b<;>rfl)
 | _=>rfl
abbrev L5 (a:A)(S:iC):R A:=match a with | .bl b=>.ok (.bl !b) S|_=>.no
@[simp]def zp {b:Bool}:L5 (.bl b) S=.ok (.bl !b) S:=rfl
@[simp]def Bm {c:Ex}:Mj c τ S=(c τ S).bind L5:=rfl
abbrev MC (c d:Ex)(τ:ae)(b:Bool)(S:iC):R A:=match b with|true=>c τ S|false=>d τ S
@[simp]def Iu {c d:Ex}:MC c d τ true S=c τ S:=rfl
@[simp]def E2 {c d:Ex}:MC c d τ false S=d τ S:=rfl
@[simp]def F6 {t:Te}{c d:Ex}:TF t c d τ S=(t τ S).bind (MC c d τ):=rfl
@[simp]def Cr:iJ τ S=.ok [] S:=rfl
abbrev Af (a:A)(j:ae)(S:iC):R (ae):=.ok (a::j) S
abbrev LI (d:n6)(τ:ae)(a:A)(S:iC):R (ae):=(d τ S).bind<|Af a
@[simp]def vY {j:ae}:Af a j S=.ok (a::j) S:=rfl
@[simp]def yV {d:n6}:LI d τ a S=(d τ S).bind (Af a):=rfl
@[simp]def yr {c:Ex}{d:n6}:iy c d τ S=(c τ S).bind (LI d τ):=rfl
@[simp]def A2 {d:n6}:qc d τ S=(d τ S).bind λas S1=>gd (as.length<=sizeLine) (.ok (.tup as) S1):=rfl
@[simp]def A5 {d:n6}:qX d τ S=(d τ S).bind newL:=rfl
theorem jn{j:ae}(h:j.length<=16777216):newL j S=.ok (.ref S.length) (S++[.lst j]):=jZ<|by rw[cS];exact h
@[simp]def xW {f:ae->iC->R A}{d:n6}:iT f d τ S=(d τ S).bind f:=rfl
abbrev QW (r:R A):R A:=match r with
 | .ok a S=>.ok a S
 | _=>.no
@[simp]def GN:QW (.ok a S)=.ok a S:=rfl
abbrev Sf (f:ae->iC->R A)(j:ae)(S:iC):R A:=QW<|f j S
@[simp]def Gy {f:ae->iC->R A}{j:ae}:Sf f j S=QW (f j S):=rfl
@[simp]def IC {f:ae->iC->R A}{d:n6}:eFn f d τ S=(d τ S).bind (Sf f):=rfl
@[simp]def Ll {g:A->iC->R A}:f1 g [a] S=g a S:=rfl
@[simp]def K_ {g:A->A->iC->R A}:f2 g [a,b] S=g a b S:=rfl
abbrev Np (h:Pt)(τ:ae)(a:A)(l:bj)(S:iC):R A:=(h τ S).bind<|Ou a l
abbrev S_ (l h:Pt)(τ:ae)(a:A)(S:iC):R A:=(l τ S).bind<|Np h τ a
@[simp]def CL {h:Pt}{l:bj}:Np h τ a l S=(h τ S).bind (Ou a l):=rfl
@[simp]def Gs {l h:Pt}:S_ l h τ a S=(l τ S).bind (Np h τ a):=rfl
@[simp]def GZ {c:Ex}{l h:Pt}:Qi c l h τ S=(c τ S).bind (S_ l h τ):=rfl
@[simp]def yh:x_ τ S=.ok none S:=rfl
abbrev SV (a:A)(S:iC):R (bj):=match a with
 | .int i=>.ok (some i) S
 | _=>.no
@[simp]def CZ {i:Int}:SV (.int i) S=.ok (some i) S:=rfl
@[simp]def zw {c:Ex}:zo c τ S=(c τ S).bind SV:=rfl
abbrev Mz (f:A->ae->iC->R A)(d:n6)(τ:ae)(o:A)(S:iC)(_:ae):R A:=(d τ S).bind<|f o
abbrev SX (f:A->ae->iC->R A)(d:n6)(τ:ae)(o:A)(S:iC):R A:=opt (o.lst? S)<|Mz f d τ o S
@[simp]def Cw {f:A->ae->iC->R A}{d:n6}{xs:ae}:Mz f d τ a S xs=(d τ S).bind (f a):=rfl
@[simp]def FF {f:A->ae->iC->R A}{d:n6}:SX f d τ a S=opt (a.lst? S) (Mz f d τ a S):=rfl
@[simp]def Ie {f:A->ae->iC->R A}{c:Ex}{d:n6}:IX f c d τ S=(c τ S).bind (SX f d τ):=rfl
@[simp]def CM {f:A->ae->iC->R A}{c:Ex}:Nt f c τ S=(c τ S).bind λo S1=>opt (o.lst? S1) λ_=>f o [] S1:=rfl
@[simp]def lst?_ref {n:Nat}:A.lst? S (.ref n)=iw S n:=rfl
abbrev RS.seq (r:RS)(d:Sm):RS:=match r with
 | .nx τ S=>d τ S
 | r=>r
@[simp]def RS.E7 {d:Sm}:RS.seq (.nx τ S) d=d τ S:=rfl
@[simp]def RS.G3 {d:Sm}:RS.seq (.rt a S) d=.rt a S:=rfl
@[simp]def RS.Gi {d:Sm}{c:Str}:RS.seq (.ex c S) d=.ex c S:=rfl
@[simp]def RS.GB {d:Sm}:RS.seq (.bk τ S) d=.bk τ S:=rfl
@[simp]def RS.FI {d:Sm}:RS.seq (.ct τ S) d=.ct τ S:=rfl
@[simp]def Ba {c d:Sm}:iZ c d τ S=RS.seq (c τ S) d:=by unfold iZ RS.seq;cases c τ S<;>rfl
@[simp]def C2:nM τ S=.nx τ S:=rfl
@[simp]def wc:Me τ S=.bk τ S:=rfl
@[simp]def xT:ON τ S=.ct τ S:=rfl
@[simp]def zb {e:Ex}:qe e τ S=RS.of (e τ S) λ_ S1=>.nx τ S1:=rfl
@[simp]def Cv {e:Ex}:jV e τ S=RS.of (e τ S) .rt:=rfl
@[simp]def yw:PL τ S=.rt .non S:=rfl
abbrev Qy (c d:Sm)(τ:ae)(b:Bool)(S:iC):RS:=match b with|true=>c τ S|false=>d τ S
@[simp]def LK {c d:Sm}:Qy c d τ true S=c τ S:=rfl
@[simp]def Li {c d:Sm}:Qy c d τ false S=d τ S:=rfl
@[simp]def Iz {t:Te}{c d:Sm}:vn t c d τ S=RS.of (t τ S) (Qy c d τ):=rfl
abbrev OY (g:Tg)(τ:ae)(a:A)(S:iC):RS:=RS.of (g a τ S) .nx
@[simp]def Bu {g:Tg}:OY g τ a S=RS.of (g a τ S) .nx:=rfl
@[simp]def BJ {e:Ex}{g:Tg}:jf e g τ S=RS.of (e τ S) (OY g τ):=rfl
@[simp]def QO {i:Nat}:i_ i a τ S=.ok (τ.set i a) S:=rfl
abbrev Mg (a o:A)(τ:ae)(i:A)(S:iC):R (ae):=(xU o i a S).bind λ_ S3=>.ok τ S3
abbrev SH (j:Ex)(τ:ae)(a o:A)(S:iC):R (ae):=(j τ S).bind<|Mg a o τ
@[simp]def CA {o i:A}:Mg a o τ i S=(xU o i a S).bind λ_ S3=>.ok τ S3:=rfl
@[simp]def Gw {j:Ex}{o:A}:SH j τ a o S=(j τ S).bind (Mg a o τ):=rfl
@[simp]def Gg {co j:Ex}:Oq co j a τ S=(co τ S).bind (SH j τ a):=rfl
@[simp]def E3 {n:Nat}{gs:IW}{xs:ae}:zH n gs (.tup xs) τ S=gd (xs.length=n) (gs xs τ S):=rfl
@[simp]def Gk:B3 [] τ S=.ok τ S:=rfl
@[simp]def G1 {g:Tg}{gs:IW}{j:ae}:s_ g gs (a::j) τ S=(g a τ S).bind (gs j):=rfl
abbrev Ss (i j:Nat)(τ:ae)(J:ae)(S:iC):RS:=match J with
 | [a,b]=>.nx ((τ.set i a).set j b) S
 | _=>.no
@[simp]def Fj {i j:Nat}:Ss i j τ [a,b] S=.nx ((τ.set i a).set j b) S:=rfl
@[simp]def C4 {i j:Nat}{c:n6}:Rb i j c τ S=RS.of (c τ S) (Ss i j τ):=rfl
abbrev E6 (i:Nat)(τ:ae)(c:A)(S:iC):RS:=.nx (τ.set i c) S
abbrev PR (i:Nat)(f:A->A->iC->R A)(τ:ae)(b:A)(S:iC):RS:=.of (f (τ.getD i .unb) b S)<|E6 i τ
@[simp]def yZ {i:Nat}:E6 i τ a S=.nx (τ.set i a) S:=rfl
@[simp]def AM {i:Nat}{f:A->A->iC->R A}:PR i f τ a S=.of (f (τ.getD i .unb) a S) (E6 i τ):=rfl
@[simp]def Az {i:Nat}{f:A->A->iC->R A}{e:Ex}:zJ i f e τ S=bif (τ.getD i .unb).kQ then .no else .of (e τ S) (PR i f τ):=by
 unfold zJ;cases(τ.getD i .unb).kQ<;>rfl
abbrev QM (o i:A)(τ:ae)(z:A)(S:iC):RS:=.of (xU o i z S) λ_ d=>.nx τ d
abbrev Ru (f:A->A->iC->R A)(o i x:A)(τ:ae)(y:A)(S:iC):RS:=.of (f x y S)<|QM o i τ
abbrev QU (j:Ex)(f:A->A->iC->R A)(o i:A)(τ:ae)(x:A)(S:iC):RS:=.of (j τ S)<|Ru f o i x τ
abbrev Rl (j:Ex)(f:A->A->iC->R A)(o:A)(τ:ae)(i:A)(S:iC):RS:=.of (JK o i S)<|QU j f o i τ
abbrev Se (j J:Ex)(f:A->A->iC->R A)(τ:ae)(o:A)(S:iC):RS:=.of (j τ S)<|Rl J f o τ
@[simp]def FU {o i:A}:QM o i τ a S=.of (xU o i a S) λ_ S6=>.nx τ S6:=rfl
@[simp]def GD {f:A->A->iC->R A}{o i x:A}:Ru f o i x τ a S=.of (f x a S) (QM o i τ):=rfl
@[simp]def IE {j:Ex}{f:A->A->iC->R A}{o i:A}:QU j f o i τ a S=.of (j τ S) (Ru f o i a τ):=rfl
@[simp]def H_ {j:Ex}{f:A->A->iC->R A}{o:A}:Rl j f o τ a S=.of (JK o a S) (QU j f o a τ):=rfl
@[simp]def Et {j J:Ex}{f:A->A->iC->R A}:Se j J f τ a S=.of (j τ S) (Rl J f a τ):=rfl
@[simp]def xX {co j J:Ex}{f:A->A->iC->R A}:OA co j J f τ S=RS.of (co τ S) (Se j J f τ):=rfl
abbrev RS.end (r:RS):R A:=match r with
 | .rt a d=>.ok a d
 | .nx _ d=>.ok .non d
 | .ex c d=>.ex c d
 | _=>.no
@[simp]def RS.FJ:RS.end (.rt a S)=.ok a S:=rfl
@[simp]def RS.G9:RS.end (.nx τ S)=.ok .non S:=rfl
@[simp]def RS.HH {c:Str}:RS.end (.ex c S)=.ex c S:=rfl
theorem t9 {N:ar}{m:Sm}{j:ae}:kZ N m j S=RS.end (m (j++List.replicate (N.length-j.length) .unb) S):=by
 unfold kZ RS.end;cases m (j++List.replicate (N.length-j.length) .unb) S<;>rfl
@[simp]def Fd {i j:Int}:ow (.int i) (.int j) S=.ok (.int<|i+j) S:=rfl
@[simp]def F3 {i j:Int}:aSub (.int i) (.int j) S=.ok (.int<|i-j) S:=rfl
@[simp]def HF {i j:Int}:Ks (.int i) (.int j) S=.ok (.int<|i+j) S:=rfl
theorem Ew{i j:Int}(h:-18446744073709551616<i)(h':i<18446744073709551616):zT (.int i) (.int j) S=.ok (.int<|i * j) S:=jZ<|by unfold Cu;simp;left;exact⟨by omega,by omega⟩
def IS{i j:Int}(h:0<j)(h':j<1073741824):B7 (.int i) (.int j) S=.ok (.int<|i / j) S:=jZ ⟨h,()⟩
def yU{i j:Int}(h:0<j):xh (.int i) (.int j) S=.ok (.int<|i % j) S:=jZ h
@[simp]def LM {i j:Int}:Ei (.int i) (.int j) S=.ok (.bl<|decide<|i<j) S:=rfl
@[simp]def L4 {i j:Int}:xQ (.int i) (.int j) S=.ok (.bl<|decide<|i<=j) S:=rfl
@[simp]def Lf {i j:Int}:Nh (.int i) (.int j) S=.ok (.bl<|decide<|j<i) S:=rfl
@[simp]def K6 {i j:Int}:P4 (.int i) (.int j) S=.ok (.bl<|decide<|j<=i) S:=rfl
@[simp]def LD {i j:Bool}:Lw false (.bl i) (.bl j) S=.ok (.bl<|i == j) S:=rfl
@[simp]def ED {i j:Bool}:Lw true (.bl i) (.bl j) S=.ok (.bl<|i != j) S:=rfl
@[simp]def Io {i:Int}:Dg (.int i) S=.ok (.int<|-i) S:=rfl
@[simp]def G5 {xs:ae}:kP (.tup xs) S=.ok (.int xs.length) S:=rfl
@[simp]def HV {xs:ae}:kP (.frz xs) S=.ok (.int xs.length) S:=rfl
@[simp]def IJ {n:Nat}:kP (.ref n) S=opt (iw S n) λxs=>.ok (.int xs.length) S:=rfl
@[simp]def Fb {i:Int}:RC (.int i) S=.ok (.int<|if i<0 then -i else i) S:=rfl
@[simp]def A9 {i j:Int}:A3 (.int i) (.int j) S=.ok (.int<|if j>i then j else i) S:=rfl
@[simp]def Cz {i j:Int}:EZ (.int i) (.int j) S=.ok (.int<|if j<i then j else i) S:=rfl
@[simp]def CI {i:Int}:LR (.int i) S=.ok (.int i) S:=rfl
@[simp]def CD {i:Bool}:LR (.bl i) S=.ok (.int<|if i then 1 else 0) S:=rfl
@[simp]def wm {i j:Int}:wA (.int i) (.int j) S=.ok (.rng i j) S:=rfl
@[simp]def Lb {xs:ae}{i:Int}:oV (.tup xs) (.int i) S=opt (oM xs i) λx=>.ok x S:=rfl
@[simp]def K9 {xs:ae}{i:Int}:oV (.frz xs) (.int i) S=opt (oM xs i) λx=>.ok x S:=rfl
@[simp]def LY {n:Nat}{i:Int}:oV (.ref n) (.int i) S=opt (iw S n) λxs=>opt (oM xs i) λx=>.ok x S:=rfl
@[simp]def Ij {n:Nat}{k:Int}:xU (.ref n) (.int k) a S=opt (iw S n) λxs=>opt (zD xs.length k) λj=>.ok Unit.unit (S.set n<|.lst<|xs.set j a):=rfl
@[simp]def IT {n:Nat}{i:Int}:JK (.ref n) (.int i) S=opt (iw S n) λxs=>gd (0<=i) (opt (xs[i.toNat]?) λx=>.ok x S):=rfl
theorem C8{i j:Int}(h:vP i j):pM (.rng i j) S=.ok (.ref S.length) (S++[.lst<|(jT i j).map .int]):=jZ h
@[simp]def CS {xs:ae}:pM (.tup xs) S=.ok (.ref S.length) (S++[.lst xs]):=rfl
@[simp]def AJ {xs:ae}:pM (.frz xs) S=.ok (.ref S.length) (S++[.lst xs]):=rfl
@[simp]def Cn {n:Nat}:pM (.ref n) S=opt (iw S n) λxs=>.ok (.ref S.length) (S++[.lst xs]):=rfl
@[simp]def xZ {xs:ae}:GA (.tup xs) S=.ok (.tup xs) S:=rfl
@[simp]def yc {n:Nat}:GA (.ref n) S=opt (iw S n) λxs=>.ok (.tup xs) S:=rfl
@[simp]def IK {xs:ae}:Hw (.tup xs) S=.ok (.tup xs.reverse) S:=rfl
@[simp]def FT {n:Nat}:Hw (.ref n) S=opt (iw S n) λxs=>.ok (.ref S.length) (S++[.lst xs.reverse]):=rfl
@[simp]def LZ {n:Nat}{l u:bj}:Ou (.ref n) l u S=opt (iw S n) λxs=>.ok (.ref S.length) (S++[.lst<|yG xs l u]):=rfl
@[simp]def uW {n:Nat}:lg (.ref n) [a] S=opt (iw S n) λxs=>gd (xs.length<sizeLine) (.ok .non<|S.set n<|.lst<|xs++[a]):=rfl
@[simp]def HB {b:Bool}:A.P6 (.bl b) S=some b:=rfl
@[simp]def CB {i:Int}:A.P6 (.int i) S=some (i != 0):=rfl
theorem MS{o:O}:(S++[o])[S.length]?=some o:=by simp
@[simp]def iR {xs:ae}:iw (S++[.lst xs]) S.length=some xs:=rj MS
theorem k_{o:O}{n:Nat}(h:iw S n=some xs):iw (S++[o]) n=some xs:=by
 have h':=iK h;exact rj<|by rw[aS (aK.mp h').1];exact h'
def mO{n:Nat}(h:iw S n=some xs):n<S.length:=(aK.mp<|iK h).1
theorem om{n:Nat}(h:n<S.length):iw (S.set n<|.lst ys) n=some ys:=rj<|bF h
def kU{n:Nat}(h:n≠m):iw (S.set n<|.lst ys) m=iw S m:=by unfold iw;rw[bE h]
def n9{xs:ae}{i:Int}{k:Nat}{x:A}(h:i=k)(hx:xs[k]?=some x):oM xs i=some x:=by rw[h];exact J9 hx
def xo{n:Nat}{i:Int}{k:Nat}(h:i=k)(j:k<n):zD n i=some k:=by
 subst h;unfold zD;rw[aR (),aR ()];simp
end
structure Kp (b:Nat->Prop)(S S':iC):Prop where
 len:S.length<=S'.length
 obj:∀(n:Nat) (o:O),¬b n->S[n]?=some o->S'[n]?=some o
meta abbrev mR:=Kp λ_=>False
def Kp.lst{b:Nat->Prop}(h:Kp b S S')(n:Nat)(xs:ae)(hb:¬b n)(e:iw S n=some xs):iw S' n=some xs:=rj<|h.obj n _ hb<|iK e
def Kp.dct{b:Nat->Prop}(h:Kp b S S')(n:Nat)(xs:List<|ag×A)(hb:¬b n)(e:jE S n=some xs):jE S' n=some xs:=qW<|h.obj n _ hb<|jx e
def Kp.refl{b:Nat->Prop}:Kp b S S:=⟨aP _,λ_ _ _ h=>h⟩
def Kp.trans{b:Nat->Prop}(h:Kp b S S1)(h':Kp b S1 S2):Kp b S S2:=⟨bH h.len h'.len,λn xs hb e=>h'.obj n xs hb<|h.obj n xs hb e⟩
def qy{S:iC}{n:Nat}(e:S[n]?=some o):n<S.length:=(aK.mp e).1
def Kp.lay{b:Nat->Prop}{o:O}(h:Kp b S S1):Kp b S (S1++[o]):=⟨bH h.len<|by simp,λn xs hb e=>by
 have:=h.obj n xs hb e;rw[aS<|qy this];exact this⟩
def Kp.EL{b:Nat->Prop}{S S1:iC}(h:Kp b S S1)(hm:b m\/S.length<=m):Kp b S (S1.set m o):=⟨by rw[bG];exact h.len,λn xs hb e=>by
 have:m≠n:=λz=>by
  subst z
  rcases hm with z|z
  ·exact hb z
  ·exact absurd (qy e) ()
 rw[bE this];exact h.obj n xs hb e⟩
def Kp.set{b:Nat->Prop}{S S1:iC}(h:Kp b S S1)(hm:b m\/S.length<=m):Kp b S (S1.set m<|.lst ys):=h.EL hm
def Kp.old{b c:Nat->Prop}{S:iC}(h:Kp b S S1)(h':Kp c S1 S2)(hc:∀n,n<S.length->¬b n->¬c n):Kp b S S2:=⟨bH h.len h'.len,λn xs hb e=>h'.obj n xs (hc n (qy e) hb)<|h.obj n xs hb e⟩
theorem pK{t:Te}{c:Sm}(Inv:ae->iC->Prop)(J:ae->iC->Nat)(j:RS->Prop)
  (h:∀τ S,Inv τ S->(∃S1,t τ S=.ok false S1/\j (.nx τ S1))\/(∃S1,t τ S=.ok true S1/\((∃τ' S',c τ S1=.nx τ' S'/\Inv τ' S'/\J τ' S'<J τ S)\/(∃a S',c τ S1=.rt a S'/\j (.rt a S'))))) :
  ∀n τ S,Inv τ S->J τ S<n->j (j5 t c n τ S)
 | 0,_,_,_,hn=>absurd hn (cM _)
 | n+1,τ,S,hi,hn=>by
  unfold j5
  rcases h τ S hi with⟨S1,e,q⟩|⟨S1,e,⟨τ',S',e2,d,hm⟩|⟨a,S',e2,q⟩⟩
  ·rw[e];exact q
  ·rw[e];show j (match c τ S1 with
    | .nx τ' S'=>j5 t c n τ' S'
    | .ct τ' S'=>j5 t c n τ' S'
    | .bk τ' S'=>.nx τ' S'
    | r=>r)
   rw[e2];exact pK Inv J j h n τ' S' d ()
  ·rw[e];show j (match c τ S1 with
    | .nx τ' S'=>j5 t c n τ' S'
    | .ct τ' S'=>j5 t c n τ' S'
    | .bk τ' S'=>.nx τ' S'
    | r=>r)
   rw[e2];exact q
theorem rY{s:Src}{g:Tg}{c:Sm}(Inv:Nat->ae->iC->Prop)(j:RS->Prop)
  (step:∀i τ S,i<s.k->Inv i τ S->∃x τ1 S1,s.get i S=some x/\g x τ S=.ok τ1 S1/\((∃τ' S',c τ1 S1=.nx τ' S'/\Inv (i+1) τ' S')\/(∃a S',c τ1 S1=.rt a S'/\j (.rt a S'))))
  (fin:∀τ S,Inv s.k τ S->s.fin S=true/\j (.nx τ S)):∀k i τ S,k+i=s.k->Inv i τ S->j (ng s g c k i τ S)
 | 0,i,τ,S,hk,hi=>by
  have:i=s.k:=()
  subst this;obtain⟨hf,q⟩:=fin τ S hi;unfold ng;rw[aR hf];exact q
 | k+1,i,τ,S,hk,hi=>by
  obtain⟨x,τ1,S1,hx,hg,h⟩:=step i τ S () hi;unfold ng;rw[hx];show j (RS.of (g x τ S) λτ1 S1=>match c τ1 S1 with
   | .nx τ' S'=>ng s g c k (i+1) τ' S'
   | .ct τ' S'=>ng s g c k (i+1) τ' S'
   | .bk τ' S'=>.nx τ' S'
   | r=>r)
  rw[hg];show j (match c τ1 S1 with
   | .nx τ' S'=>ng s g c k (i+1) τ' S'
   | .ct τ' S'=>ng s g c k (i+1) τ' S'
   | .bk τ' S'=>.nx τ' S'
   | r=>r)
  rcases h with⟨τ',S',e,d⟩|⟨a,S',e,q⟩
  ·rw[e];exact rY Inv j step fin k (i+1) τ' S' () d
  ·rw[e];exact q
def qU{lo hi:Int}{c:Sm}{src:Ic}{τ:ae}(hs:src τ S=.ok (oE lo hi) S1)(Inv:Nat->ae->iC->Prop)(J:RS->Prop)(h0:Inv 0 τ S1)
  (step:∀(i:Nat) τ S,(i:Int)<hi-lo->Inv i τ S->(∃τ' S',c (τ.set j<|.int<|lo+i) S=.nx τ' S'/\Inv (i+1) τ' S')\/(∃a S',c (τ.set j<|.int<|lo+i) S=.rt a S'/\J (.rt a S')))
  (L:∀τ S,Inv (hi-lo).toNat τ S->J (.nx τ S)):J (mW src (i_ j) c τ S):=by
 unfold mW;rw[hs];refine rY (s:=oE lo hi) Inv J (λi τ S d h=>?_) (λτ S h=>⟨rfl,L τ S h⟩) _ 0 τ S1 rfl h0;have d:i<(hi-lo).toNat:=d;exact⟨.int<|lo+i,_,S,aR d,rfl,step i τ S (by omega) h⟩
def BG{xs:ae}{g:Tg}{c:Sm}{src:Ic}(hs:src τ S=.ok (nG xs) S1)(Inv:Nat->ae->iC->Prop)(j:RS->Prop)(h0:Inv 0 τ S1)
  (step:∀(i:Nat) x τ S,xs[i]?=some x->Inv i τ S->∃τ1 S1,g x τ S=.ok τ1 S1/\((∃τ' S',c τ1 S1=.nx τ' S'/\Inv (i+1) τ' S')\/(∃a S',c τ1 S1=.rt a S'/\j (.rt a S'))))
  (J:∀τ S,Inv xs.length τ S->j (.nx τ S)):j (mW src g c τ S):=by
 unfold mW;rw[hs];refine rY (s:=nG xs) Inv j (λi τ S d h=>?_) (λτ S h=>⟨rfl,J τ S h⟩) _ 0 τ S1 rfl h0;have d:i<xs.length:=d;obtain⟨τ1,S1,e,q⟩:=step i xs[i] τ S (aH d) h;exact⟨xs[i],τ1,S1,aH d,e,q⟩
def Jt{n:Nat}{xs:ae}{g:Tg}{c:Sm}{src:Ic}(hs:src τ S=.ok (i9 n xs.length) S1)(Inv:Nat->ae->iC->Prop)(j:RS->Prop)(h0:Inv 0 τ S1)(L:∀i τ S,Inv i τ S->iw S n=some xs)
  (step:∀(i:Nat) x τ S,xs[i]?=some x->Inv i τ S->∃τ1 S1,g x τ S=.ok τ1 S1/\((∃τ' S',c τ1 S1=.nx τ' S'/\Inv (i+1) τ' S')\/(∃a S',c τ1 S1=.rt a S'/\j (.rt a S'))))
  (J:∀τ S,Inv xs.length τ S->j (.nx τ S)):j (mW src g c τ S):=by
 unfold mW;rw[hs];refine rY (s:=i9 n xs.length) Inv j (λi τ S d h=>?_) (λτ S h=>⟨?_,J τ S h⟩) _ 0 τ S1 rfl h0
 ·have d:i<xs.length:=d;obtain⟨τ1,S1,e,q⟩:=step i xs[i] τ S (aH d) h;exact⟨xs[i],τ1,S1,by show(iw S n).bind _=_;rw[L i τ S h];exact aH d,e,q⟩
 ·show(match iw S n with
   | some ys=>decide (ys.length<=xs.length)
   | none=>false)=true
  rw[L _ τ S h];exact bu<|aP _
@[simp]def pA {c:Ex}{τ:ae}{S S1:iC}{j:Int}(h:c τ S=.ok (.int j) S1)(hb:bnd j):qg c τ S=.ok (oE 0 j) S1:=by
 unfold qg;rw[h];exact jZ hb
def Ir{c d:Ex}{i j:Int}(h:c τ S=.ok (.int i) S1)(h':d τ S1=.ok (.int j) S2)(hb:bnd i)(J:bnd j):uO c d τ S=.ok (oE i j) S2:=by
 unfold uO;rw[h];show(d τ S1).bind _=_;rw[h'];exact jZ ⟨hb,J⟩
def kX{c:Ex}{n:Nat}{xs:ae}(h:c τ S=.ok (.ref n) S1)(j:iw S1 n=some xs):jX c τ S=.ok (i9 n xs.length) S1:=by
 unfold jX;rw[h];show opt (iw S1 n) _=_;rw[j];rfl
theorem nZ{s:Src}{g:Tg}{t:Te}{e:Ex}{P:iC->Prop}{T:ae->Prop}(it:Nat->A)(p:Nat->Bool)(f:Nat->A)
  (J:∀i S,i<s.k->P S->s.get i S=some (it i)) (L:∀S,P S->s.fin S=true)
  (step:∀i τ S,i<s.k->T τ->P S->∃τ1 S1 S2,g (it i) τ S=.ok τ1 S1/\t τ1 S1=.ok (p i) S2/\T τ1/\(p i=false->P S2)/\(p i=true->∃S3,e τ1 S2=.ok (f i) S3/\P S3)) :
  ∀k i τ S,k+i=s.k->T τ->P S->∃S',jN s g t e k i τ S=.ok (((List.range' i k).filter p).map f) S'/\P S'
 | 0,i,τ,S,hk,hT,hP=>⟨S,by unfold jN;rw[aR<|L S hP];rfl,hP⟩
 | k+1,i,τ,S,hk,hT,hP=>by
  obtain⟨τ1,S1,S2,hg,z,d,C,j⟩:=step i τ S (by omega) hT hP;unfold jN;rw[J i S (by omega) hP,iP,hg,R.i8,z,R.i8,List.range'_succ,fZ]
  cases hp:p i with
  | false=>
   obtain⟨S',h1,h2⟩:=nZ it p f J L step k (i+1) τ1 S2 (by omega) d<|C hp;exact⟨S',by simpa using h1,h2⟩
  | true=>
   obtain⟨S3,B,m⟩:=j hp;obtain⟨S',h1,h2⟩:=nZ it p f J L step k (i+1) τ1 S3 (by omega) d m;refine⟨S',?_,h2⟩
   skip
   rw[B,R.i8,h1];rfl
def sf{s:Src}{src:Ic}{t:Te}{e:Ex}{S1:iC}(hs:src τ S=.ok s S1)(it:Nat->A)(p:Nat->Bool)(f:Nat->A)(J:∀i,i<s.k->s.get i S1=some (it i))(L:s.fin S1=true)
  (M:∀i,i<s.k->t (it i::lA cap τ) S1=.ok (p i) S1) (U:∀i,i<s.k->p i=true->e (it i::lA cap τ) S1=.ok (f i) S1) (Z:s.k<=16777216) :
  jA (none::cap) src (i_ 0) t e τ S=.ok (.ref S1.length) (S1++[.lst<|((List.range s.k).filter p).map f]):=by
 unfold jA;rw[hs,R.jK];obtain⟨j,h1,h2⟩:=nZ (s:=s) (g:=i_ 0) (t:=t) (e:=e) (P:=λS=>S=S1) (T:=λd=>∃y,d=y::lA cap τ) it p f (λi S hi h=>by subst h;exact J i hi) (λS h=>by subst h;exact L)
  (λi d S hi ⟨y,hy⟩ h=>by
   subst h hy;exact⟨it i::lA cap τ,S,S,rfl,M i hi,⟨_,rfl⟩,λ_=>rfl,λhp=>⟨S,U i hi hp,rfl⟩⟩) s.k 0 (lA (none::cap) τ) S1 rfl ⟨_,rfl⟩ rfl
 subst h2;rw[h1,R.i8,gb];refine jn ?_;rw[aL];refine bH (List.length_filter_le _ _) ?_;rw[fB];exact Z
def nS{α β:Type}(xs:List α)(p:α->Bool)(f:α->β):∀(d:α) ,(((List.range xs.length).filter λi=>p<|xs.getD i d).map λi=>f<|xs.getD i d)=(xs.filter p).map f:=by
 intro d
 induction xs with
 | nil=>rfl
 | cons x xs g=>
  rw[bz,List.range_succ_eq_map,fZ,fZ];have e:((List.filter (λi=>p<|(x::xs).getD i d)<|List.map Nat.succ<|List.range xs.length).map λi=>f<|(x::xs).getD i d)=(xs.filter p).map f:=by
   rw[h_,bL];rw[<- g];rfl
  show List.map _ (if p x=true then _ else _)=List.map f (if p x=true then _ else _);by_cases hp:p x=true
  ·rw[aR hp,aR hp,bC,bC,e];rfl
  ·rw[aU hp,aU hp,e]
def HY{xs:ae}{src:Ic}{t:Te}{e:Ex}{S1:iC}(hs:src τ S=.ok (nG xs) S1)(p:A->Bool)(f:A->A)
  (j:∀x∈xs,t (x::lA cap τ) S1=.ok (p x) S1) (J:∀x∈xs,p x=true->e (x::lA cap τ) S1=.ok (f x) S1) (L:xs.length<=16777216) :
  jA (none::cap) src (i_ 0) t e τ S=.ok (.ref S1.length) (S1++[.lst<|(xs.filter p).map f]):=by
 have hm:∀i,i<xs.length->xs.getD i .unb∈xs:=λi hi=>by
  rw[aI,aH hi];exact cO hi
 rw[sf hs (λi=>xs.getD i .unb) (λi=>p<|xs.getD i .unb) (λi=>f<|xs.getD i .unb) (λi hi=>by
  have hi:i<xs.length:=hi;show xs[i]?=_;rw[aI,aH hi];rfl) rfl (λi hi=>j _<|hm i hi) (λi hi=>J _<|hm i hi) L]
 have:=nS xs p f .unb;show R.ok _ (S1++[O.lst<|((List.range xs.length).filter _).map _])=_;rw[this]
@[simp]def HW {cap:List<|bo}{τ:ae}:lA (none::cap) τ=.unb::lA cap τ:=rfl
@[simp]def HC {cap:List<|bo}{τ:ae}{j:Nat}:lA (some j::cap) τ=τ.getD j .unb::lA cap τ:=rfl
@[simp]def za {τ:ae}:lA [] τ=[]:=rfl
theorem L8{x:A}:oM (x::xs) 0=some x:=n9 (k:=0) rfl rfl
def L3{x:A}:oM (x::y::xs) 1=some y:=n9 (k:=1) rfl rfl
def t7{ns:ag}{i:Int}{k:Nat}{x:Int}(h:i=k)(hx:ns[k]?=some x):oM (ns.map A.int) i=some (.int x):=n9 h<|by rw[aX,hx];rfl
def mU{j:Int}(h:-4611686018427387904<=j)(h':j<4611686018427387904):bnd j:=⟨(),()⟩
def Gh{i j:Int}(h1:-1000000<=i)(h2:i<=1000000)(J:-1000000<=j)(L:j<=1000000)(M:j-i<=1000):vP i j:=⟨⟨(),(),(),()⟩,()⟩
theorem ints_map:∀(ns:ag),A.ints (ns.map .int)=some ns
 | []=>rfl
 | n::ns=>by show(A.ints<|ns.map .int).map (n::·)=_;rw[ints_map ns];rfl
theorem wk{n:Nat}:∀(xs ys:ag),uJ (vV S<|n+1) (xs.map .int) (ys.map .int)=some (decide<|xs=ys)
 | [],[]=>rfl
 | [],_::_=>rfl
 | _::_,[]=>rfl
 | x::xs,y::ys=>by
  skip
  skip
  show Option.map _ (uJ (vV S<|n+1) (xs.map .int)<|ys.map .int)=_;rw[wk xs ys]
  skip
  by_cases h1:x=y<;>by_cases h2:xs=ys<;>simp[h1,h2]
@[simp]def LB {S:iC}{x y:Bool}:uf false (.bl x) (.bl y) S=.ok (.bl<|x == y) S:=rfl
@[simp]def LN {S:iC}{x y:Bool}:uf true (.bl x) (.bl y) S=.ok (.bl<|!(x == y)) S:=rfl
@[simp]def Lh {S:iC}{x y:Int}:uf false (.int x) (.int y) S=.ok (.bl<|x == y) S:=rfl
@[simp]def LS {S:iC}{x y:Int}:uf true (.int x) (.int y) S=.ok (.bl<|!(x == y)) S:=rfl
@[simp]def BX {S:iC}:Lw false .non .non S=.ok (.bl true) S:=rfl
@[simp]def C7 {S:iC}{xs:ae}:Lw false (.tup xs) .non S=.ok (.bl false) S:=rfl
@[simp]def BW {S:iC}{n:Nat}:Lw false (.ref n) .non S=.ok (.bl false) S:=rfl
@[simp]def yi {S:iC}:Lw true .non .non S=.ok (.bl false) S:=rfl
@[simp]def xV {S:iC}{xs:ae}:Lw true (.tup xs) .non S=.ok (.bl true) S:=rfl
@[simp]def yp {S:iC}{n:Nat}:Lw true (.ref n) .non S=.ok (.bl true) S:=rfl
@[simp]def C3 {S:iC}{x:A}{c:String}:D0 x (.ty c) S=opt (x.kd S) λk=>opt (yC k c) λb=>.ok (.bl b) S:=rfl
@[simp]def La {S:iC}{b:Bool}:A.kd (.bl b) S=some .bl:=rfl
@[simp]def HG {S:iC}{b:Int}:A.kd (.int b) S=some .int:=rfl
@[simp]def Hl {S:iC}{b:ae}:A.kd (.tup b) S=some .tup:=rfl
@[simp]def HQ {S:iC}:A.kd .non S=some .non:=rfl
@[simp]def G4 {S:iC}{b:Str}:A.kd (.str b) S=some .str:=rfl
@[simp]def Hy {S:iC}{n:Nat}:A.kd (.ref n) S=(iw S n).map λ_=>.lst:=rfl
@[simp]def IU {S:iC}:newL [] S=.ok (.ref S.length) (S++[.lst []]):=jn<|by simp
@[simp]def E_ {S:iC}{j:A}:newL [j] S=.ok (.ref S.length) (S++[.lst [j]]):=jn<|by simp
@[simp]def Iq {S:iC}{j J:A}:newL [j,J] S=.ok (.ref S.length) (S++[.lst [j,J]]):=jn<|by simp
@[simp]def FN {S:iC}{j J L:A}:newL [j,J,L] S=.ok (.ref S.length) (S++[.lst [j,J,L]]):=jn<|by simp
@[simp]def Hz {S:iC}{j J L M:A}:newL [j,J,L,M] S=.ok (.ref S.length) (S++[.lst [j,J,L,M]]):=jn<|by simp
@[simp]def Gr {S:iC}{j J L M U:A}:newL [j,J,L,M,U] S=.ok (.ref S.length) (S++[.lst [j,J,L,M,U]]):=jn<|by simp
@[simp]def E4 {S:iC}{j J L M U Z:A}:newL [j,J,L,M,U,Z] S=.ok (.ref S.length) (S++[.lst [j,J,L,M,U,Z]]):=jn<|by simp
@[simp]def EU {S:iC}{j J L M U Z x6:A}:newL [j,J,L,M,U,Z,x6] S=.ok (.ref S.length) (S++[.lst [j,J,L,M,U,Z,x6]]):=jn<|by simp
@[simp]def Gv {S:iC}{j J L M U Z x6 x7:A}:newL [j,J,L,M,U,Z,x6,x7] S=.ok (.ref S.length) (S++[.lst [j,J,L,M,U,Z,x6,x7]]):=jn<|by simp
@[simp]def GV {S:iC}{j J L M U Z x6 x7 x8:A}:newL [j,J,L,M,U,Z,x6,x7,x8] S=.ok (.ref S.length) (S++[.lst [j,J,L,M,U,Z,x6,x7,x8]]):=jn<|by simp
@[simp]def BQ {S:iC}{j J L M U Z x6 x7 x8 x9:A}:newL [j,J,L,M,U,Z,x6,x7,x8,x9] S=.ok (.ref S.length) (S++[.lst [j,J,L,M,U,Z,x6,x7,x8,x9]]):=jn<|by simp
theorem qL{α:Type}{n:Nat}{r:R α}(h:n<=16777216):gd (n<=sizeLine) r=r:=jZ<|by rw[cS];exact h
def rg{α:Type}{n:Nat}{r:R α}(h:n<16777216):gd (n<sizeLine) r=r:=jZ<|by rw[cS];exact h
def K2 {x:A}{xs:ae}:(x::xs).getD 0 .unb=x:=rfl
def LF {x:A}{xs:ae}{n:Nat}:(x::xs).getD (n+1) .unb=xs.getD n .unb:=rfl
def OQ {x y:A}{xs:ae}:(x::xs).set 0 y=y::xs:=rfl
def sets {x y:A}{xs:ae}{n:Nat}:(x::xs).set (n+1) y=x::xs.set n y:=rfl
def rep0 {x:A}:List.replicate 0 x=[]:=rfl
def reps {x:A}{n:Nat}:List.replicate (n+1) x=x::List.replicate n x:=rfl
def Px {x:A}{xs ys:ae}:(x::xs)++ys=x::(xs++ys):=rfl
def OU {ys:ae}:[]++ys=ys:=rfl
def Oz{S:iC}{n:Nat}{xs ys:ae}(h:iw S n=some xs)(h':iw S m=some ys)(j:xs.length+ys.length<=16777216):ow (.ref n) (.ref m) S=.ok (.ref S.length) (S++[.lst<|xs++ys]):=by
 show opt (iw S n) _=_;rw[h,iP,h',iP];exact jZ<|by rw[cS];exact j
abbrev uV (x:A)(S:iC):R A:=bif x.kQ then .no else .ok x S
def Ep {xs:ae}{S:iC}:uV (.tup xs) S=.ok (.tup xs) S:=rfl
def EG {xs:ae}{S:iC}:uV (.frz xs) S=.ok (.frz xs) S:=rfl
def HN {i:Int}{S:iC}:uV (.int i) S=.ok (.int i) S:=rfl
def LU {b:Bool}{S:iC}:uV (.bl b) S=.ok (.bl b) S:=rfl
def G_ {s:Str}{S:iC}:uV (.str s) S=.ok (.str s) S:=rfl
def HU {n:Nat}{S:iC}:uV (.ref n) S=.ok (.ref n) S:=rfl
def ES  {S:iC}:uV (.non) S=.ok (.non) S:=rfl
def F_ {i j:Int}{S:iC}:uV (.rng i j) S=.ok (.rng i j) S:=rfl
def El {s:Str}{S:iC}:uV (.exn s) S=.ok (.exn s) S:=rfl
def SK {j:A}{xs:ae}{S:iC}:iu 0 (j::xs) S=uV j S:=lZ
def Sj {J j:A}{xs:ae}{S:iC}:iu 1 (J::j::xs) S=uV j S:=lZ
def Sk {J L j:A}{xs:ae}{S:iC}:iu 2 (J::L::j::xs) S=uV j S:=lZ
def SG {J L M j:A}{xs:ae}{S:iC}:iu 3 (J::L::M::j::xs) S=uV j S:=lZ
def Tc {J L M U j:A}{xs:ae}{S:iC}:iu 4 (J::L::M::U::j::xs) S=uV j S:=lZ
def Sw {J L M U Z j:A}{xs:ae}{S:iC}:iu 5 (J::L::M::U::Z::j::xs) S=uV j S:=lZ
def Su {J L M U Z x5 j:A}{xs:ae}{S:iC}:iu 6 (J::L::M::U::Z::x5::j::xs) S=uV j S:=lZ
def Sl {J L M U Z x5 x6 j:A}{xs:ae}{S:iC}:iu 7 (J::L::M::U::Z::x5::x6::j::xs) S=uV j S:=lZ
def SD {J L M U Z x5 x6 x7 j:A}{xs:ae}{S:iC}:iu 8 (J::L::M::U::Z::x5::x6::x7::j::xs) S=uV j S:=lZ
def SJ {a j:A}{xs:ae}{S:iC}:i_ 0 a (j::xs) S=.ok (a::xs) S:=rfl
def Td {a j J:A}{xs:ae}{S:iC}:i_ 1 a (j::J::xs) S=.ok (j::a::xs) S:=rfl
def SE {a j J L:A}{xs:ae}{S:iC}:i_ 2 a (j::J::L::xs) S=.ok (j::J::a::xs) S:=rfl
def Sq {a j J L M:A}{xs:ae}{S:iC}:i_ 3 a (j::J::L::M::xs) S=.ok (j::J::L::a::xs) S:=rfl
def SO {a j J L M U:A}{xs:ae}{S:iC}:i_ 4 a (j::J::L::M::U::xs) S=.ok (j::J::L::M::a::xs) S:=rfl
def SY {a j J L M U Z:A}{xs:ae}{S:iC}:i_ 5 a (j::J::L::M::U::Z::xs) S=.ok (j::J::L::M::U::a::xs) S:=rfl
def SM {a j J L M U Z x6:A}{xs:ae}{S:iC}:i_ 6 a (j::J::L::M::U::Z::x6::xs) S=.ok (j::J::L::M::U::Z::a::xs) S:=rfl
def SA {a j J L M U Z x6 x7:A}{xs:ae}{S:iC}:i_ 7 a (j::J::L::M::U::Z::x6::x7::xs) S=.ok (j::J::L::M::U::Z::x6::a::xs) S:=rfl
def SQ {a j J L M U Z x6 x7 x8:A}{xs:ae}{S:iC}:i_ 8 a (j::J::L::M::U::Z::x6::x7::x8::xs) S=.ok (j::J::L::M::U::Z::x6::x7::a::xs) S:=rfl
def iX:type_of% (anI @R.jK<|anI @R.CY<|anI @R.i8<|anI @RS.of_ok<|anI @RS.LL<|anI @iP<|anI @CN<|anI @SK<|anI @Sj<|anI @Sk<|anI @SG<|anI @Tc<|anI @Sw<|anI @Su<|anI @Sl<|anI @SD<|anI @Ep<|anI @EG<|anI @HN<|anI @LU<|anI @G_<|anI @HU<|anI @ES<|anI @F_<|anI @El<|anI @B8<|anI @CT<|anI @Bj<|anI @Fy<|anI @Ck<|anI @CJ<|anI @Ce<|anI @CQ<|anI @Bw<|anI @Lq<|anI @Cj<|anI @Ib<|anI @Cc<|anI @Lg<|anI @GQ<|anI @Bb<|anI @BO<|anI @Fx<|anI @BL<|anI @Cf<|anI @BR<|anI @HE<|anI @Em<|anI @AA<|anI @Gq<|anI @zp<|anI @Bm<|anI @F6<|anI @Cr<|anI @yr<|anI @A2<|anI @A5<|anI @xW<|anI @GN<|anI @IC<|anI @Ll<|anI @K_<|anI @GZ<|anI @yh<|anI @CZ<|anI @zw<|anI @Ie<|anI @CM<|anI @lst?_ref<|anI @RS.E7<|anI @RS.G3<|anI @RS.Gi<|anI @RS.GB<|anI @RS.FI<|anI @Ba<|anI @C2<|anI @wc<|anI @xT<|anI @zb<|anI @Cv<|anI @yw<|anI @Iz<|anI @BJ<|anI @SJ<|anI @Td<|anI @SE<|anI @Sq<|anI @SO<|anI @SY<|anI @SM<|anI @SA<|anI @SQ<|anI @Gg<|anI @E3<|anI @Gk<|anI @G1<|anI @Fj<|anI @C4<|anI @Az<|anI @xX<|anI @RS.FJ<|anI @RS.G9<|anI @RS.HH<|anI @Fd<|anI @F3<|anI @HF<|anI @LM<|anI @L4<|anI @Lf<|anI @K6<|anI @LD<|anI @ED<|anI @Io<|anI @G5<|anI @HV<|anI @IJ<|anI @Fb<|anI @A9<|anI @Cz<|anI @CI<|anI @CD<|anI @wm<|anI @Lb<|anI @K9<|anI @LY<|anI @Ij<|anI @IT<|anI @CS<|anI @AJ<|anI @Cn<|anI @xZ<|anI @yc<|anI @IK<|anI @FT<|anI @LZ<|anI @uW<|anI @HB<|anI @CB<|anI @iR<|anI @HW<|anI @HC<|anI @za<|anI @LB<|anI @LN<|anI @Lh<|anI @LS<|anI @BX<|anI @C7<|anI @BW<|anI @yi<|anI @xV<|anI @yp<|anI @C3<|anI @La<|anI @HG<|anI @Hl<|anI @HQ<|anI @G4<|anI @Hy<|anI @IU<|anI @E_<|anI @Iq<|anI @FN<|anI @Hz<|anI @Gr<|anI @E4<|anI @EU<|anI @Gv<|anI @GV<|anI @BQ<|anI @K2<|anI @LF<|anI @OQ<|anI @sets<|anI @rep0<|anI @reps<|anI @Px<|anI @OU<|anI @t9<|anI @Bs<|anI @Er<|anI @EW<|anI @Ls<|anI @K5<|anI @Iu<|anI @E2<|anI @vY<|anI @yV<|anI @Gy<|anI @CL<|anI @Gs<|anI @Cw<|anI @FF<|anI @LK<|anI @Li<|anI @Bu<|anI @CA<|anI @Gw<|anI @yZ<|anI @AM<|anI @Et<|anI @H_<|anI @IE<|anI @GD<|@FU):=anI @R.jK<|anI @R.CY<|anI @R.i8<|anI @RS.of_ok<|anI @RS.LL<|anI @iP<|anI @CN<|anI @SK<|anI @Sj<|anI @Sk<|anI @SG<|anI @Tc<|anI @Sw<|anI @Su<|anI @Sl<|anI @SD<|anI @Ep<|anI @EG<|anI @HN<|anI @LU<|anI @G_<|anI @HU<|anI @ES<|anI @F_<|anI @El<|anI @B8<|anI @CT<|anI @Bj<|anI @Fy<|anI @Ck<|anI @CJ<|anI @Ce<|anI @CQ<|anI @Bw<|anI @Lq<|anI @Cj<|anI @Ib<|anI @Cc<|anI @Lg<|anI @GQ<|anI @Bb<|anI @BO<|anI @Fx<|anI @BL<|anI @Cf<|anI @BR<|anI @HE<|anI @Em<|anI @AA<|anI @Gq<|anI @zp<|anI @Bm<|anI @F6<|anI @Cr<|anI @yr<|anI @A2<|anI @A5<|anI @xW<|anI @GN<|anI @IC<|anI @Ll<|anI @K_<|anI @GZ<|anI @yh<|anI @CZ<|anI @zw<|anI @Ie<|anI @CM<|anI @lst?_ref<|anI @RS.E7<|anI @RS.G3<|anI @RS.Gi<|anI @RS.GB<|anI @RS.FI<|anI @Ba<|anI @C2<|anI @wc<|anI @xT<|anI @zb<|anI @Cv<|anI @yw<|anI @Iz<|anI @BJ<|anI @SJ<|anI @Td<|anI @SE<|anI @Sq<|anI @SO<|anI @SY<|anI @SM<|anI @SA<|anI @SQ<|anI @Gg<|anI @E3<|anI @Gk<|anI @G1<|anI @Fj<|anI @C4<|anI @Az<|anI @xX<|anI @RS.FJ<|anI @RS.G9<|anI @RS.HH<|anI @Fd<|anI @F3<|anI @HF<|anI @LM<|anI @L4<|anI @Lf<|anI @K6<|anI @LD<|anI @ED<|anI @Io<|anI @G5<|anI @HV<|anI @IJ<|anI @Fb<|anI @A9<|anI @Cz<|anI @CI<|anI @CD<|anI @wm<|anI @Lb<|anI @K9<|anI @LY<|anI @Ij<|anI @IT<|anI @CS<|anI @AJ<|anI @Cn<|anI @xZ<|anI @yc<|anI @IK<|anI @FT<|anI @LZ<|anI @uW<|anI @HB<|anI @CB<|anI @iR<|anI @HW<|anI @HC<|anI @za<|anI @LB<|anI @LN<|anI @Lh<|anI @LS<|anI @BX<|anI @C7<|anI @BW<|anI @yi<|anI @xV<|anI @yp<|anI @C3<|anI @La<|anI @HG<|anI @Hl<|anI @HQ<|anI @G4<|anI @Hy<|anI @IU<|anI @E_<|anI @Iq<|anI @FN<|anI @Hz<|anI @Gr<|anI @E4<|anI @EU<|anI @Gv<|anI @GV<|anI @BQ<|anI @K2<|anI @LF<|anI @OQ<|anI @sets<|anI @rep0<|anI @reps<|anI @Px<|anI @OU<|anI @t9<|anI @Bs<|anI @Er<|anI @EW<|anI @Ls<|anI @K5<|anI @Iu<|anI @E2<|anI @vY<|anI @yV<|anI @Gy<|anI @CL<|anI @Gs<|anI @Cw<|anI @FF<|anI @LK<|anI @Li<|anI @Bu<|anI @CA<|anI @Gw<|anI @yZ<|anI @AM<|anI @Et<|anI @H_<|anI @IE<|anI @GD<|@FU
def bools:(∀b:Bool,cond false b b=b)/\(∀(α:Type) (x y:α),cond false x y=y)/\(∀(α:Type) (x y:α),cond true x y=x):=⟨λ_=>rfl,λ_ _ _=>rfl,λ_ _ _=>rfl⟩
def l7:(∀(x:Str) (xs:ar),(x::xs).length=xs.length+1)/\([]:ar).length=0/\(∀(x:A) (xs:ae),(x::xs).length=xs.length+1)/\([]:ae).length=0:=⟨λ_ _=>rfl,rfl,λ_ _=>rfl,rfl⟩
section
variable {τ:ae}{S:iC}
def AX {f:ae->iC->R A}{d:n6}:R_ f d τ S=(d τ S).bind f:=rfl
abbrev SW (c:Str):Unit->iC->RS:=λ_ S1=>.ex c S1
def E8 {c:Str}{u:Unit}:SW c u S=.ex c S:=rfl
def v_ {c:Str}{ps:List<|Str ⊕ Ex}:Nf c ps τ S=RS.of (KL ps τ S) (SW c):=rfl
def Bf:KL [] τ S=.ok Unit.unit S:=rfl
def A8 {x:Str}{ps:List<|Str ⊕ Ex}:KL (.inl x::ps) τ S=KL ps τ S:=rfl
abbrev Tq (ps:List<|Str ⊕ Ex)(τ:ae):A->iC->R Unit:=λv S1=>match v with
 | .int i=>gd (i.natAbs.log2<64) (KL ps τ S1)
 | _=>.no
def AF {e:Ex}{ps:List<|Str ⊕ Ex}:KL (.inr e::ps) τ S=(e τ S).bind (Tq ps τ):=rfl
abbrev RS.try (i n:Nat)(cs:ar)(d:Sm):RS->RS
 | .ex x S1=>if x∈cs then Lx i (d ((List.replicate n .unb).set i<|.exn x) S1)else .no
 | r=>r
def BD {i n:Nat}{cs:ar}{c d:Sm}:OX i n cs c d τ S=RS.try i n cs d (c τ S):=by
 unfold OX RS.try;cases c τ S<;>rfl
def GC {i n:Nat}{cs:ar}{d:Sm}:RS.try i n cs d (.nx τ S)=.nx τ S:=rfl
def Hx {i n:Nat}{cs:ar}{d:Sm}{a:A}:RS.try i n cs d (.rt a S)=.rt a S:=rfl
def Ik {i n:Nat}{x:Str}{cs:ar}{d:Sm}:RS.try i n (x::cs) d (.ex x S)=Lx i (d ((List.replicate n .unb).set i<|.exn x) S):=aR<|.head _
def Gd {i:Nat}{a:A}:Lx i (.rt a S)=.rt a S:=rfl
def FH {i:Nat}:Lx i (.nx τ S)=.nx (τ.set i .unb) S:=rfl
abbrev Pb (f:Str->bn):A->iC->R A:=λv S1=>match v with
 | .exn x=>opt (f x) λb=>.ok (.bl b) S1
 | _=>.no
def Ci {f:Str->bn}{c:Ex}:Q3 f c τ S=(c τ S).bind (Pb f):=rfl
def EE {x:Str}{b:Bool}{tb:List<|Str×Bool}:Pb (Tw ((x,b)::tb)) (.exn x) S=.ok (.bl b) S:=by
 show opt (List.lookup x ((x,b)::tb)) _=_;rw[c8,cA];rfl
abbrev R.IG {α β:Type}(r:R α)(f:α->iC->R β):R β:=match r with
 | .ok a S=>f a S
 | _=>.no
def yK {α β:Type}{a:α}{f:α->iC->R β}:R.IG (.ok a S) f=f a S:=rfl
def Bv {f:ae->iC->R A}{d:n6}:Qk f d τ S=R.IG (d τ S) f:=by unfold Qk R.IG;cases d τ S<;>rfl
abbrev RS.Q9 {α:Type}(r:R α)(f:α->iC->RS):RS:=match r with
 | .ok a S=>f a S
 | _=>.no
def HA {α:Type}{a:α}{f:α->iC->RS}:RS.Q9 (.ok a S) f=f a S:=rfl
def Bx {t:Te}{c d:Sm}:Pa t c d τ S=RS.Q9 (t τ S) (Qy c d τ):=by
 unfold Pa RS.Q9
 cases t τ S with
 | ok b S1=>cases b<;>rfl
 | ex _ _=>rfl
 | no=>rfl
abbrev RS.HR (i:Nat)(cs:ar)(d:Sm)(τ:ae):RS->RS
 | .ex x S1=>if x∈cs then Lx i (d (τ.set i<|.exn x) S1)else .no
 | r=>r
def yd {i:Nat}{cs:ar}{c d:Sm}:Lz i cs c d τ S=RS.HR i cs d τ (c τ S):=by
 unfold Lz RS.HR;cases c τ S<;>rfl
def C6 {i:Nat}{cs:ar}{d:Sm}{j:ae}:RS.HR i cs d τ (.nx j S)=.nx j S:=rfl
def Bc {i:Nat}{cs:ar}{d:Sm}{a:A}:RS.HR i cs d τ (.rt a S)=.rt a S:=rfl
def CU {i:Nat}{x:Str}{cs:ar}{d:Sm}:RS.HR i (x::cs) d τ (.ex x S)=Lx i (d (τ.set i<|.exn x) S):=aR<|.head _
def yb:A.KY []=some []:=rfl
def vX {b:Bool}{xs:ae}:A.KY (.bl b::xs)=(A.KY xs).map (b::·):=rfl
end
def Qf:type_of% (anI @AX<|anI @v_<|anI @E8<|anI @Bf<|anI @A8<|anI @AF<|anI @BD<|anI @GC<|anI @Hx<|anI @Ik<|anI @Gd<|anI @FH<|anI @Ci<|anI @EE<|anI @yb<|anI @vX<|anI @yK<|anI @Bv<|anI @HA<|anI @Bx<|anI @yd<|anI @C6<|anI @Bc<|anI @CU<|trivial):=anI @AX<|anI @v_<|anI @E8<|anI @Bf<|anI @A8<|anI @AF<|anI @BD<|anI @GC<|anI @Hx<|anI @Ik<|anI @Gd<|anI @FH<|anI @Ci<|anI @EE<|anI @yb<|anI @vX<|anI @yK<|anI @Bv<|anI @HA<|anI @Bx<|anI @yd<|anI @C6<|anI @Bc<|anI @CU<|trivial
end Am
namespace Am
open PySem PySem.Spec PyProof.Rows L2
abbrev Df (K:aA)(x:Str)(st:aG):Prop:=∃(f:aq) (fd:FuncData),PySem.W.nsIn K mainGlobals x=some (some<|.ref f)/\Fun K x x st f fd
inductive En (P:ah) (w:af) (K:aA) (mg:Str->bi) (base:au):Prop
 | mk (h:au) (X:K.In h) (G:h.Ns mainGlobals mg)
section
variable {P:ah}{w:af}{K:aA}{mg:Str->bi}{base:au}{x:Str}{st:aG}{ps:ar}{k:Nat}{F:ae->iC->R A}
def En.at(E:En P w K mg base){f:aq}(h:PySem.W.nsIn K mainGlobals x=some (some<|.ref f)):mg x=some (.ref f):=by
 obtain⟨_,X,G⟩:=E;exact gQ X G h
def Df.of{f:aq}{kV j ct:aa}(a:PySem.W.nsIn K mainGlobals x=some (some<|.ref f))(l:K.lookup f=some ⟨oc,od,.func<|PySem.W.fnOf x x (pZ st) (m7 st) (iO st) .none kV doc j an cdv ct,osl⟩)(c:PySem.W.codeIn K cdv x=true)(k:PySem.W.keepIn K (.ref f)=true):Df K x st:=⟨f,_,a,N3 l c k⟩
meta abbrev Bi (x:Str)(st:aG)(ps:ar):Prop:=∀us:ba,us.length=ps.length->∀(kV f j:aa) (g:Option aq) (d ct:aa),bindArgs (PySem.W.fnOf x x (pZ st) (m7 st) (iO st) .none kV f j g d ct) ⟨us,[]⟩=pure (ps.zip us)
def Df.get(d:Df K x st)(E:En P w K mg base)(b:Bi x st ps):∃f fd,Fun K x x st f fd/\mg x=some (.ref f)/\PySem.W.keepIn K (.ref f)=true/\Binds K fd ps []:=by
 obtain⟨f,fd,a,F⟩:=d;exact⟨f,fd,F,E.at a,F.kp,F.binds λkV g t k j ct us m=>b us m kV g t k j ct⟩
def Df.kA(d:Df K x st)(E:En P w K mg base)(h:∀{f fd},Fun K x x st f fd->FnOk P w K mg base qa k f fd ps (qO K ps.length F))(b:Bi x st ps):sS P w K mg base k x ps F:=by
 obtain⟨f,fd,a,c,e,g⟩:=d.get E b;exact⟨f,fd,h a,c,e,g⟩
end
section
variable {X:Cx}{pos p:Pos}{e1 e2:aF}{x p1 p2:Str}{k K0:Nat}{F:ae->iC->R A}{c1 c2:Ex}
def D7(G:sS X.prog X.w X.K X.mg X.base k x [p1] F)(hr:Room K0 X.A)(h1:AE X e1 c1)(L:k<=K0<|>δ)(hg:Gl X x<|>ε)(j:(x == ("__debug__" : Str))=false<|>δ)(J:starEach [e1] X.env=(false,eval e1 X.env)::starEach [] X.env<|>ε)(hp:((backTo pos<|starEach [] X.env).any (·.1)=false)<|>ε):AE X (.Call (.Name x p) [e1] [] pos) (eFn F<|iy c1 iJ):=Lj G (hr.mono L) (iA h1 iG J) (uI Bp) hg j J hp
def zB(G:sS X.prog X.w X.K X.mg X.base k x [p1,p2] F)(hr:Room K0 X.A)(h1:AE X e1 c1)(h2:AE X e2 c2)(L:k<=K0<|>δ)(hg:Gl X x<|>ε)(j:(x == ("__debug__" : Str))=false<|>δ)(J:starEach [e1,e2] X.env=(false,eval e1 X.env)::starEach [e2] X.env<|>ε)(M:starEach [e2] X.env=(false,eval e2 X.env)::starEach [] X.env<|>ε)(hp:((backTo pos<|starEach [e2] X.env).any (·.1)=false)<|>ε):AE X (.Call (.Name x p) [e1,e2] [] pos) (eFn F<|iy c1<|iy c2 iJ):=Lj G (hr.mono L) (iA h1 (iA h2 iG M) J) (uI<|uI Bp) hg j J hp
def u0{N P:ar}{j:Scope}(a:j.kind=.function)(b:j.isCoroutine=false)(c:j.isGenerator=false)(h:N.Nodup/\N.take P.length=P/\(∀x∈P,j.names.lookup x=some .local\/j.names.lookup x=some .cell)/\∀y∈j.names,y.2≠.free):FnScope N P j:=⟨a,b,c,h.1,h.2.1,h.2.2.1,h.2.2.2⟩
end
abbrev pL (S:iC)(n:Nat):Option (List<|Int×A):=match S[n]? with
 | some (.mY xs)=>some xs
 | _=>none
def m5{n:Nat}(h:pL S n=some xs):S[n]?=some (.mY xs):=by
 unfold pL at h;split at h
 ·rename_i e;cases h;exact e
 ·cases h
def q_{S:iC}{n:Nat}(h:S[n]?=some (.mY xs)):pL S n=some xs:=by
 unfold pL;rw[h]
abbrev kN (kvs:List<|Int×A)(k:Int):Option A:=(kvs.find? λd=>decide<|d.1=k).map (·.2)
abbrev zO (kvs:List<|Int×A)(k:Int)(v:A):List (Int×A):=
 if (kN kvs k).isSome=true then kvs.map (λd=>if d.1=k then(d.1,v)else d)else kvs++[(k,v)]
section
variable {K:aA}{ρ:bd}{H:Hp}
def DN{p:Int×A}{r:List<|Int×A}{k:Int}(e:p.1=k):kN (p::r) k=some p.2:=by simp[kN,cz,e]
def D3{p:Int×A}{r:List<|Int×A}{k:Int}(e:¬p.1=k):kN (p::r) k=kN r k:=by simp[kN,cz,e]
def O1{a b:Int}(e:(Sum.inl a:Key)=Sum.inl b):a=b:=by injection e
theorem DI.look:∀{kvs:List<|Int×A}{ks:List<|Key×V}(k:Int),DI K ρ H kvs ks->(kN kvs k).isSome=(mL ks (Sum.inl k:Key)).isSome/\∀x,kN kvs k=some x->∃v,mL ks (Sum.inl k:Key)=some v/\AV K ρ H x v
 | [],[],k,_=>⟨rfl,λx h=>nomatch h⟩
 | p::r,q::r',k,⟨⟨e,a⟩,t⟩=>by
  by_cases c:p.1=k
  ·have d:q.1=(Sum.inl k:Key):=by rw[e,c]
   rw[DN c,pC d];exact⟨rfl,λx h=>by cases h;exact⟨_,rfl,a⟩⟩
  ·have d:¬q.1=(Sum.inl k:Key):=λz=>c<|O1<|e.symm.trans z;rw[D3 c,o_ d];exact DI.look k t
theorem DI.repl{x:A}{v:V}(h:AV K ρ H x v)(k:Int):∀{kvs:List<|Int×A}{ks:List<|Key×V},DI K ρ H kvs ks->DI K ρ H (kvs.map λkv=>if kv.1=k then(kv.1,x)else kv) (ks.map λkv=>if kv.1=(Sum.inl k:Key)then(kv.1,v)else kv)
 | [],[],_=>trivial
 | p::r,q::r',⟨⟨e,a⟩,t⟩=>by
  refine⟨?_,DI.repl h k t⟩;dsimp only;by_cases c:p.1=k
  ·rw[aR c,aR<|by rw[e,c]];exact⟨e,h⟩
  ·rw[aU c,aU λz=>c<|O1<|e.symm.trans z];exact⟨e,a⟩
theorem DI.snoc{x:A}{v:V}(h:AV K ρ H x v)(k:Int):∀{kvs:List<|Int×A}{ks:List<|Key×V},DI K ρ H kvs ks->DI K ρ H (kvs++[(k,x)]) (ks++[(Sum.inl k,v)])
 | [],[],_=>⟨⟨rfl,h⟩,trivial⟩
 | p::r,q::r',⟨a,t⟩=>⟨a,DI.snoc h k t⟩
def DI.put{x:A}{v:V}(h:AV K ρ H x v)(k:Int){ks:List<|Key×V}(d:DI K ρ H kvs ks):DI K ρ H (zO kvs k x) (putK ks (Sum.inl k:Key) v):=by
 unfold zO putK;rw[rL,<- (d.look k).1];by_cases c:(kN kvs k).isSome=true
 ·rw[aR c,aR c];exact DI.repl h k d
 ·rw[aU c,aU c];exact DI.snoc h k d
def DI.length:∀{kvs:List<|Int×A}{ks:List<|Key×V},DI K ρ H kvs ks->kvs.length=ks.length
 | [],[],_=>rfl
 | _::_,_::_,⟨_,t⟩=>cj (·+1) t.length
def Rel.mY{n:Nat}{a:aq}(R:Rel K ρ H S)(j:ρ[n]?=some a)(J:S[n]?=some (.mY xs)):∃vs,H a=some (.dK vs)/\DI K ρ H xs vs:=R.at n a _ j J
def Rel.QL{S:iC}{p:aq}(R:Rel K ρ H S)(hp:H p=none)(r:DI K ρ H xs vs):Ext ρ (ρ++[p]) H (upd H p<|.dK vs)/\Rel K (ρ++[p]) (upd H p<|.dK vs) (S++[.mY xs])/\(ρ++[p])[S.length]?=some p:=by
 have ex:Ext ρ (ρ++[p]) H (upd H p<|.dK vs):=⟨⟨dc _ _,λa u _ h=>by rw[iB<|iM h hp];exact h⟩,λa u h _=>by rw[iB<|iM h hp];exact h,λa h=>by
  rcases bA.mp h with z|z
  ·exact .inl z
  ·have e:a=p:=by simpa using z
   rw[e];exact .inr hp⟩
 have j:p∉ρ:=R.yg hp;have d:(ρ++[p])[S.length]?=some p:=by rw[<- R.len];simp
 refine⟨ex,⟨by simp[R.len],?_,?_⟩,d⟩
 ·rw[cH];refine⟨R.nd,by simp,λa k b hb e=>?_⟩;have:b=p:=by simpa using hb
  exact j<|by rw[<- this,<- e];exact k
 ·intro n a o h1 h2;by_cases hn:n<S.length
  ·rw[aS<|by rw[R.len];exact hn]at h1;rw[aS hn]at h2;have na:a≠p:=λz=>j (by rw[<- z];exact bx h1);have:=R.at n a o h1 h2
   cases o with
   | lst ys=>obtain⟨f,e,q⟩:=this;exact⟨f,by rw[iB na];exact e,q.ext ex⟩
   | dct _|mY _|dks _|dcp _=>obtain⟨f,e,q⟩:=this;exact⟨f,by rw[iB na];exact e,q.ext ex⟩
   | dcf _|dkf _=>obtain⟨g,f,e,q⟩:=this;exact⟨g,f,by rw[iB na];exact e,q.ext ex⟩
   | ins _ _=>obtain⟨g,m,e⟩:=this;exact⟨g,m,by rw[iB na];exact e⟩
  ·have e:n=S.length:=by
    have:=(aK.mp h2).1;simp at this
    lia
   subst e;rw[d]at h1
   cases h1
   simp at h2;subst h2;exact⟨vs,iW,r.ext ex⟩
def Rel.zO{S:iC}{n:Nat}{a:aq}(R:Rel K ρ H S)(J:ρ[n]?=some a)(L:S[n]?=some (.mY xs))(r:DI K ρ H ys ws):Ext ρ ρ H (upd H a<|.dK ws)/\Rel K ρ (upd H a<|.dK ws) (S.set n<|.mY ys):=by
 obtain⟨k,e,_⟩:=R.at n a _ J L;have ex:Ext ρ ρ H (upd H a<|.dK ws):=⟨⟨cI _,λb u i h=>by
  have:b≠a:=by
   intro z;subst z;rw[e]at h;cases h;exact i
  rw[iB this];exact h⟩,λb u h n=>by
  rw[iB λz=>n<|by rw[z];exact bx J];exact h,λ_ h=>.inl h⟩
 refine⟨ex,by rw[bG];exact R.len,R.nd,λm b o h1 h2=>?_⟩;by_cases hm:m=n
 ·subst hm;rw[J]at h1;cases h1;rw[bF (aK.mp L).1]at h2
  cases h2
  exact⟨ws,iW,r.ext ex⟩
 ·rw[bE<|b_ hm]at h2;have nb:b≠a:=λz=>by
   subst z;obtain⟨t,e1⟩:=aK.mp J;obtain⟨B,e2⟩:=aK.mp h1;exact hm<|(eN R.nd).mp<|e2.trans e1.symm
  have:=R.at m b o h1 h2
  cases o with
  | lst ys=>obtain⟨d,f,q⟩:=this;exact⟨d,by rw[iB nb];exact f,q.ext ex⟩
  | dct _|mY _|dks _|dcp _=>obtain⟨d,f,q⟩:=this;exact⟨d,by rw[iB nb];exact f,q.ext ex⟩
  | dcf _|dkf _=>obtain⟨g,d,f,q⟩:=this;exact⟨g,d,by rw[iB nb];exact f,q.ext ex⟩
  | ins _ _=>obtain⟨g,j,f⟩:=this;exact⟨g,j,by rw[iB nb];exact f⟩
end
section
variable {X:Cx}{pos:Pos}{a b:aF}
abbrev D4 (x y:A)(S:iC):R A:=match x,y with
 | .ref n,.int k=>opt (pL S n) λkvs=>opt (kN kvs k) λv=>.ok v S
 | _,_=>.no
def Ds{x:A}{P:A->iC->Prop}{E:Str->iC->Prop}(h:(D4 x y S).post P E):∃n k kvs v,x=.ref n/\y=.int k/\pL S n=some kvs/\kN kvs k=some v/\P v S:=by
 unfold D4 at h;split at h
 ·obtain⟨kvs,h1,h⟩:=iF h;obtain⟨v,h2,h⟩:=iF h;exact⟨_,_,kvs,v,rfl,rfl,h1,h2,h⟩
 ·exact h.elim
def Pz(J:X.A.units+64<cLine):K3 X (r2 X D4):=λj f pins s σ H x y v u Q I rx ry ⟨ρ,S,a,b,R,va,vb,h⟩ hs=>by
 obtain⟨n,k,kvs,z,m,hb,hn,t,hP⟩:=Ds h;subst m hb
 cases vb
 cases va with
 | @ref p _ hp=>
  obtain⟨ks,e,d⟩:=R.mY hp<|m5 hn;obtain⟨w,hw,B⟩:=(d.look k).2 z t;have g:tR H p (kV<|Sum.inl k) (mL ks<|Sum.inl k):=tR.k e;rw[hw]at g;exact A_ () j f pins s σ H _ _ v u Q I rx ry ⟨p,w,rfl,g,hP _ _ _ .refl R B⟩ hs
def NV(j:X.A.units+64<cLine){ca cb:Ex}(J:AE X a ca)(hb:AE X b cb)(hs:uc b<|>θ):AE X (.Subscript a b pos) (iL D4 ca cb):=PE.imp (FY (Pz j) J hb hs) λσ H Q h=>p6 h
abbrev qd (o i v:A)(S:iC):R Unit:=match o,i with
 | .ref n,.int k=>opt (pL S n) λkvs=>gd (kvs.length<sizeLine) (.ok Unit.unit<|S.set n<|.mY<|zO kvs k v)
 | _,_=>.no
end
end Am
namespace L2
open PySem PySem.Spec PyProof.Rows
section
variable {P:ah}{w:af}{A:aC}{E:aa->aE->Prop}{s:aE}{it d:aq}{i ep:Nat}{es:Array DictEntry}{o:Obj}
def Mb{Q:bi->aE->Prop}(hi:s.heap.IsKeyIter it d i es.size ep)(J:s.heap.get? d=some o)(hd:o.data=.dict es ep)(lt:i<es.size)
  (q:∀h',h'.IsKeyIter it d (i+1) es.size ep->Heap.SameBut it s.heap h'->Q (some es[i].key) { s with heap:=h' }):wpAny (model P w) A (pyNext<|.ref it) Q E s:=by
 have ty:=hi.typeIs;obtain⟨B,g,k,f⟩:=id hi;have own:Builtin.Dict_items.ownsTuple "dict_keyiterator" = false:=by decide
 have z:¬((Value.ref d == Value.none)=true):=bf;have t:¬((i:Int)<0):=by omega
 unfold pyNext;refine aJ<|wpAny_attempt<|dP (name:=Str.ofString "__next__") ty cg<|dQ cg ty fm ?_<|eV _;refine aJ (aO<|aJ<|aJ ?_)
 first
  | refine aJ (cT ty<|aO<|aJ<|gC g f ?_)
  | refine aJ<|dJ ty<|aO<|aJ<|gC g f ?_
 dsimp[own,cY,c_];show wpAny (model P w) _ (if (Value.ref d == Value.none)=true then _ else _) _ _ s;rw[aU z];refine aJ<|aO<|aJ<|dG J hd ?_;rw[aU<|show ¬_ by simp];refine aJ<|aO<|aJ<|wpAny_dictEpoch J hd ?_;rw[aU<|show ¬_ by simp];refine aO ?_;dsimp[t,cY,gF,Array.getElem?_eq_getElem lt];refine aJ ?_
 first
  | refine aJ (cT ty<|aO<|aJ<|fV ty ?_)
  | refine aJ<|dJ ty<|aO<|aJ<|fV ty ?_
 show wpAny (model P w) _ (setField (.ref it) 1 (rawInt<|(i:Int)+1) >>= _) _ _ s;refine aJ (wpAny_setField g f (show _ by simp) ?_);have j:(s.heap.update it<|Obj.mapFields λfs=>fs.setIfInBounds 1<|rawInt<|(i:Int)+1).IsKeyIter it d (i+1) es.size ep:=
  ⟨_,fR _ g<|Obj.isFreed_of_fields<|Obj.data_mapFields f _,(Obj.cls_mapFields ..).trans k,by
   rw[Obj.data_mapFields f];simp[rawInt]⟩
 have m:Shared.TypeIs { s with heap:=s.heap.update it<|Obj.mapFields λfs=>fs.setIfInBounds 1<|rawInt<|(i:Int)+1} (.ref it) "dict_keyiterator" := Heap.IsKeyIter.typeIs (s:={ s with heap:=_ }) j;refine aJ (cJ<|aJ<|fV m ?_)
 skip
 exact aO<|aO ⟨_,rfl,aO<|q _ j<|gu ..⟩
def Ku{Q:bi->aE->Prop}(hh:A.handled=none)(hi:s.heap.IsKeyIter it d i es.size ep)(J:s.heap.get? d=some o)(hd:o.data=.dict es ep)(L:es.size<=i)
  (q:∀h',Heap.ExtBut it s.heap h'->Q none { s with heap:=h' }):wpAny (model P w) A (pyNext<|.ref it) Q E s:=by
 have ty:=hi.typeIs;obtain⟨z,f,j,g⟩:=id hi;have own:Builtin.Dict_items.ownsTuple "dict_keyiterator" = false:=by decide
 have t:¬((Value.ref d == Value.none)=true):=bf;have k:¬((i:Int)<0):=by omega
 unfold pyNext;refine aJ<|wpAny_attempt<|dP (name:=Str.ofString "__next__") ty cg<|dQ cg ty fm ?_<|eV _;refine aJ (aO<|aJ<|aJ ?_)
 first
  | refine aJ (cT ty<|aO<|aJ<|gC f g ?_)
  | refine aJ<|dJ ty<|aO<|aJ<|gC f g ?_
 dsimp[own,cY,c_];show wpAny (model P w) _ (if (Value.ref d == Value.none)=true then _ else _) _ _ s;rw[aU t];refine aJ<|aO<|aJ<|dG J hd ?_;rw[aU<|show ¬_ by simp];refine aJ<|aO<|aJ<|wpAny_dictEpoch J hd ?_;rw[aU<|show ¬_ by simp];refine aO ?_;dsimp[k,cY,gF,Array.getElem?_eq_none L];refine aJ ?_
 first
  | refine aJ (cT ty<|aO ?_)
  | refine aJ<|dJ ty<|aO ?_
 show wpAny (model P w) _ (setField (.ref it) 0 .none >>= _) _ _ s;refine aJ (wpAny_setField f g (show _ by simp) ?_)
 skip
 refine aJ ?_;dsimp[newExc,newTuple];refine aJ (bS (aJ (m:=firstArgMember _ _)<|wpAny_of_eq (a:=Value.none) (by first|rfl|(dsimp[firstArgMember];rfl))<|bS ?_<|by size_fits)<|by size_fits);dsimp[raiseNew];have hn:A.in1.handled=none:=hh;refine aJ<|wpAny_handled<|?_;rw[hn];refine aJ<|aO<|wpAny_throw<|?_;refine aJ<|wpAny_isInstance (b:=true) (T := "StopIteration") ⟨_,bI _ rfl,rfl⟩ isSubtype_stop<|aO<|q _<|((gu ..).extBut.push _).push _
def zR{Q:aa->aE->Prop}(ty:s.TypeIs (.ref d) "dict")(hs:(d == sysModules)=false)(j:s.heap.get? d=some o)(hd:o.data=.dict es ep)
  (q:Q (.ref s.heap.objs.size) { s with heap:=s.heap.push { cls:=.type "dict_keyiterator",data:=.fields #[.ref d,.int 0 0,.int es.size 0,.int ep 0]}}):wpAny (model P w) A (pyIter<|.ref d) Q E s:=by
 refine wpAny_pyIter_slot ty PySem.F.slot_dict_iter<|dQ PySem.F.slot_dict_iter ty PySem.F.entry_dict_iter ?_<|PySem.F.args_dict_iter_1 _;delta Builtin.«dict.__iter__»;refine aJ ?_;delta Builtin.Dict.dictSlotNone;refine aJ (wpAny_notOrdered_dict ty ?_)
 skip
 refine aO ?_;show wpAny (model P w) _ (Builtin.Dict.showsAll d >>= _) _ _ s;delta Builtin.Dict.showsAll;have f:¬((d == sysModules)=true):=by rw[hs];exact bf
 rw[aU f];refine aJ<|aO<|aJ<|dG j hd<|aJ<|wpAny_dictEpoch j hd ?_;refine aJ<|bS<|aO ⟨_,rfl, "dict_keyiterator",_,⟨_,bI _ rfl,rfl⟩,cg.lookup,?_⟩;simpa[rawInt]using q
end
section
variable {X:Cx}
def Og{H:Hp}{s:aE}{kvs:List<|List Key×V}(I:Inv X pins σ H s)(ed:H d=some (.dT kvs)) :
  ∃(ob:Obj) (es:Array DictEntry) (ep:Nat) (rs:bd),s.heap.get? d=some ob/\ob.cls=.type "dict" /\ ob.data=.dict es ep/\(d == sysModules)=false/\kvs.length<=sizeLine/\rs.length=kvs.length/\es.size=kvs.length /\
   (∀i:Nat,(es[i]?).map (λe:DictEntry=>e.key)=(rs[i]?).map Value.ref)/\∀(i:Nat) r p,rs[i]?=some r->kvs[i]?=some p->H r=some (.tup<|p.1.map kV):=by
 obtain⟨z,hd,xs,g,dd⟩:=vI I.hok ed;obtain⟨ob,es,ep,g1,g2,B,j,F,G⟩:=id dd;obtain⟨k,m⟩:=kt_at g;have f:es.size=xs.length:=by have:=cj List.length j;simpa using this
 refine⟨ob,es,ep,xs.map λy=>y.2.1,g1,g2.1,B,hd,z,by rw[aL,k],by rw[f,k],λi=>?_,λi r p e1 e2=>?_⟩
 ·rw[<- fS,j,aX,aX,map_map,map_map]
  cases xs[i]?<;>rfl
 ·obtain⟨y,h1,h2,t,C⟩:=m i p e2;rw[aX,h1]at e1
  cases e1
  exact t
abbrev RE (d:aq)(o:Obj)(u:HO)(j:bd):It:=
 ⟨λi H=>(∃a,j[i]?=some a)/\H d=some (.frz o u),λi H x H'=>H'=H/\∀a,j[i]?=some a->x=.ref a,λi H=>i=j.length/\H d=some (.frz o u)⟩
def Dn{P:ah}{w:af}{K:aA}(d it:aq){o:Obj}{es:Array DictEntry}{J:bd}(hd:o.data=.dict es ep)(L:es.size=J.length)
  (M:∀i:Nat,(es[i]?).map (λe:DictEntry=>e.key)=(J[i]?).map Value.ref):Turn P w K tg (RE d o u J) [it] it (λi h=>h.IsKeyIter it d i es.size ep) where
 mem:=aM ..
 obj:=λi h st b hb=>by
  have:b=it:=by simpa using hb
  subst this;obtain⟨ob,h1,h2,t⟩:=st;exact⟨ob,h1,λv z=>by rw[t]at z;cases z⟩
 keep:=λi h h' st k=>st.at λx e=>k it (aM ..) x e
 item:=by
  room;subst hP hw hK;obtain⟨⟨a,j⟩,g⟩:=hg;have m:s.heap.get? d=some o:=(show jq _ _ H s.heap d (.frz o u)from I.hok d _ g).1;have lt:i<es.size:=by rw[L];exact(aK.mp j).1
  have ek:es[i].key=.ref a:=by
   have:=M i;rw[Array.getElem?_eq_getElem lt,j]at this;exact aV this
  obtain⟨f0,f1,f2,f3,f4,f5⟩:=hf it<|aM ..;refine Mb st m hd lt λh' f B=>?_;have I1:Inv X pins σ H { s with heap:=h' }:=I.turned (t':=s.toks) (λb x hb e=>B.extBut b x hb e) f0 f1 f3 f4 f5;obtain⟨C,e,c,dd⟩:=id f;rw[ek];exact⟨_,rfl,wo (s:={ s with heap:=h' }) e c dd ⋯ ⟨.ref a,H,I1,rfl,⟨rfl,λb hb=>by rw[j]at hb;cases hb;rfl⟩,f,λb hb=>(hf b hb).1⟩⟩
 done:=by
  room;subst hP hw hK;obtain⟨hi,g⟩:=hg;have m:s.heap.get? d=some o:=(show jq _ _ H s.heap d (.frz o u)from I.hok d _ g).1;obtain⟨f0,f1,f2,f3,f4,f5⟩:=hf it<|aM ..;exact Ku (I.ok.hd hc) st m hd () λh' hx=>⟨rfl,I.turned (t':=s.toks) (λb x hb e=>hx b x hb e) f0 f1 f3 f4 f5⟩
 self:=λ_ _ _ _ _ st q=>wpAny_pyIter_keyiter st q
abbrev Pq (to:TE):TI:=λσ H R=>to σ H λx H1=>∃d kvs,x=.ref d/\H1 d=some (.dT kvs)/\∀(o:Obj) (f:bd),f.length=kvs.length->(∀(i:Nat) r p,f[i]?=some r->kvs[i]?=some p->H1 r=some (.tup<|p.1.map kV))->R (RE d o (.dT kvs) f) (upd H1 d<|.frz o<|.dT kvs)
def KH{to:TE}(Z:PE X e to):PI X tg e (Pq to):=by
 intro pins s σ H R I h;refine ju (Z pins s σ H _ I h) λv g h9=>?_;obtain⟨x,H1,I1,r1,d,kvs,ex,ed,N⟩:=h9;subst ex
 cases r1
 obtain⟨z,hd,xs,t,dd⟩:=vI I1.hok ed;obtain⟨f,B,m,k1,k2,V,P,_,W⟩:=id dd;obtain⟨ob,es,ep,C,g1,g2,F,K,Y,G,U,O,J⟩:=Og I1 ed;have L:f=ob:=by rw[g1]at k1;exact(aV k1).symm
 subst L;refine zR ⟨_,g1,g2⟩ K g1 F ?_;have M:Inv X pins σ H1 { g with heap:=g.heap.push { cls:=.type "dict_keyiterator",data:=.fields #[.ref d,.int 0 0,.int es.size 0,.int ep 0]}}:=
  I1.kept (t':=g.toks) λb o j=>aQ _ j
 have k:∀b ys,H1 b=some (.tup ys)->upd H1 d (.frz f<|.dT kvs) b=some (.tup ys):=λb ys j=>by
  rw[iB<|AB j ed λz=>nomatch z];exact j
 have I3:Inv X pins σ (upd H1 d<|.frz f<|.dT kvs) _:=p7 (t':=g.toks) (ob:=.frz f<|.dT kvs) M (by rw[ed];exact True.intro) ⟨rfl,λ_ _=>rfl⟩ ⟨f,aQ _ g1⟩ ⟨aQ _ g1,z,hd,xs,t.keeps k,f,B,m,aQ _ g1,k2,V,P,W⟩;refine⟨g.heap.objs.size,[g.heap.objs.size],_,RE d f (.dT kvs) C,_,rfl,I3,Dn d _ F (by rw[U,G]) O,⟨_,bI _ rfl,rfl,rfl⟩,λb hb=>?_,N f C G J⟩;have j:b=g.heap.objs.size:=by simpa using hb
 subst j;refine I1.uN (aP _) ?_;rw[iB<|b_<|bB<|aZ g1];exact I1.hok.fresh<|aP _
end
end L2
namespace Am
open PySem PySem.Spec PyProof.Rows L2
section
@[irreducible] noncomputable def big:Nat:=2 ^ 4096
end
def KJ:bootBuiltins "dict" = some (.type "dict"):=by decide +kernel
abbrev kA (p:Int×Int):A:=.ktu [.int p.1,.int p.2]
end Am
namespace L2
open PySem PySem.Spec PyProof.Rows
section
variable {prog:ah}{w:af}{A:aC}{R:Result->aE->Prop}{s:aE}
def p9{iter:aF}{rest:List Comprehension}{env:Env}
  (h0:codeAny (model prog w) A (.compLoop (.DictComp ek ev (⟨tg,iter,ifs,0⟩::rest) scope pos) 0 it acc env) R s)
  (h:wpAny (model prog w) A (pyIter it) (λit' s'=>codeAny (model prog w) A (.compLoop (.DictComp ek ev (⟨tg,iter,ifs,0⟩::rest) scope pos) 0 it' acc env) R s')
   (notedBy (model prog w) A env λx s'=>R (.error x) s') s) :
  codeAny (model prog w) A (.compStart (.DictComp ek ev (⟨tg,iter,ifs,0⟩::rest) scope pos) 0 it acc env) R s:=by
 refine codeAny_of_tree ?_;show wpAny _ _ ((compStart (.DictComp ek ev (⟨tg,iter,ifs,0⟩::rest) scope pos) 0 it acc env).onRaise λx=>do noteFrame x env;standAt theWindowsPlace) _ _ s;refine wpAny_notedAt ?_;unfold compStart;show wpAny _ _ (ask >>= _) _ _ s;refine aJ<|wpAny_askSetting<|wpAny_ite ?_;split
 ·first
   | exact aJ (aO<|aO<|anI rfl h0)
   | exact aO<|anI rfl h0
 ·first
   | exact aJ (gA<|aJ<|bX<|aJ<|c9 h (λit' s' h'=>aO<|anI rfl h') λ_ _ x=>x)
   | (refine aJ<|gA ?_;show wpAny _ _ (standAt iter.pos >>= _) _ _ s;exact aJ<|bX<|aJ<|c9 h (λit' s' h'=>aO<|anI rfl h') λ_ _ x=>x)
end
section
variable {X:Cx}{pins:bt}{σ:St}{H H':Hp}{s:aE}{a:aq}{y v:V}{u r:aa}{A:aC}{E:aa->aE->Prop}
def Dv{Q:Unit->aE->Prop}(Z:A.units+1<cLine)(I:Inv X pins σ H s)(g:ug H a y v H')(ry:RelV y u)(U:RelV v r)(h:∀s',Inv X pins σ H' s'->Q Unit.unit s') :
  wpAny (model X.prog X.w) A (dictSet a u r) Q E s:=by
 rcases g with⟨kvs,k,e,m,l,B⟩|⟨kvs,k,b,e,m,G,l,B⟩
 ·subst m B;obtain⟨z,hd,K,d,dd⟩:=Lp I.hok e;have C:K.length<=sizeLine:=by rw[<- d.length];exact z
  have t:(putK kvs k v).length<=sizeLine:=by have:=m9 kvs k v;lia
  refine wpAny_dictSet_pairs (hsz:=C) (Bh ry) dd λh' f hs=>h _ ?_;have M:∃q,h'.get? a=some q:=let⟨q,_,_,j,_⟩:=f;⟨q,j⟩
  exact p7 I (by rw[e];exact True.intro) hs M<|Hf t hd (d.put k U) f
 ·subst m B
  cases(show u=Value.ref b from ry)
  obtain⟨z,hd,xs,d,dd⟩:=vI I.hok e;have C:xs.length<=sizeLine:=by rw[<- f9 d];exact z
  have t:(putK kvs k v).length<=sizeLine:=by have:=m9 kvs k v;lia
  refine wpAny_dictSet_heap (hsz:=C) (show A.units<cLine by lia) (sU I.hok G) dd λh' f hs=>h _ ?_;obtain⟨q,es,ep,j,h2,N,L,_,J⟩:=f;refine p7 I (by rw[e];exact True.intro) hs ⟨q,j⟩ ⟨t,hd,_,(d.put k G U).keeps λc ys F=>?_,q,es,ep,j,h2,N,L,J⟩;rw[iB<|AB F e λz=>nomatch z];exact F
end
def xm(ek ev t1 i1 t2 i2:aF)(f1 f2:List aF)(scope:Scope)(pos:Pos)(it acc:aa)(env:Env) :
  compTurn (.DictComp ek ev [⟨t1,i1,f1,0⟩,⟨t2,i2,f2,0⟩] scope pos) 0 it acc env=(do
   standAt i1.pos
   match <- pyNext it with
   | none=>pure (.done .next)
   | some v=>
    letOwnedTupleGo t1 it v
    assign t1 env v
    let mut ok:=true
    for c in f1 do
     if ok then ok <- isTrue c env (eval c env)
    if ok then
     let x <- eval i2 env
     standAt i2.pos
     let x <- foldedSetIterable i2 env x
     let _ <- runOwn (.compStart (.DictComp ek ev [⟨t1,i1,f1,0⟩,⟨t2,i2,f2,0⟩] scope pos) 1 (<- holding [x] (pyIter x)) acc env) env
    again (.compLoop (.DictComp ek ev [⟨t1,i1,f1,0⟩,⟨t2,i2,f2,0⟩] scope pos) 0 it acc env)):=by rfl
def wC(ek ev t1 i1 t2 i2:aF)(f1 f2:List aF)(scope:Scope)(pos:Pos)(it:aa)(d:aq)(env:Env) :
  compTurn (.DictComp ek ev [⟨t1,i1,f1,0⟩,⟨t2,i2,f2,0⟩] scope pos) 1 it (.ref d) env=(do
   standAt i2.pos
   match <- pyNext it with
   | none=>pure (.done .next)
   | some v=>
    letOwnedTupleGo t2 it v
    assign t2 env v
    let mut ok:=true
    for c in f2 do
     if ok then ok <- isTrue c env (eval c env)
    if ok then
     (do
      let kv <- eval ek env
      let vv <- holding [kv] (eval ev env)
      standAt { ek.pos with endLine:=ev.pos.endLine,endCol:=ev.pos.endCol }
      holding [kv,vv] (dictSet d kv vv))
    again (.compLoop (.DictComp ek ev [⟨t1,i1,f1,0⟩,⟨t2,i2,f2,0⟩] scope pos) 1 it (.ref d) env)):=by rfl
section
variable {prog:ah}{w:af}{A:aC}{R:Result->aE->Prop}{s:aE}
def oW{t1:aF}{f1 f2:List aF}{env:Env}
  (h0:codeAny (model prog w) A (.compLoop (.DictComp ek ev [⟨t1,i1,f1,0⟩,⟨t2,i2,f2,0⟩] scope pos) 1 it acc env) R s)
  (h:wpAny (model prog w) A (pyIter it) (λit' s'=>codeAny (model prog w) A (.compLoop (.DictComp ek ev [⟨t1,i1,f1,0⟩,⟨t2,i2,f2,0⟩] scope pos) 1 it' acc env) R s')
   (notedBy (model prog w) A env λx s'=>R (.error x) s') s) :
  codeAny (model prog w) A (.compStart (.DictComp ek ev [⟨t1,i1,f1,0⟩,⟨t2,i2,f2,0⟩] scope pos) 1 it acc env) R s:=by
 refine codeAny_of_tree ?_;show wpAny _ _ ((compStart (.DictComp ek ev [⟨t1,i1,f1,0⟩,⟨t2,i2,f2,0⟩] scope pos) 1 it acc env).onRaise λx=>do noteFrame x env;standAt theWindowsPlace) _ _ s;refine wpAny_notedAt ?_;unfold compStart;show wpAny _ _ (ask >>= _) _ _ s;refine aJ<|wpAny_askSetting<|wpAny_ite ?_;split
 ·first
   | exact aJ (aO<|aO<|anI rfl h0)
   | exact aO<|anI rfl h0
 ·first
   | exact aJ (gA<|aJ<|bX<|aJ<|c9 h (λit' s' h'=>aO<|anI rfl h') λ_ _ x=>x)
   | (refine aJ<|gA ?_;show wpAny _ _ (standAt i2.pos >>= _) _ _ s;exact aJ<|bX<|aJ<|c9 h (λit' s' h'=>aO<|anI rfl h') λ_ _ x=>x)
end
abbrev AU (g:TG)(tc:TT)(tk tv:TE)(D:aq)(L:L2.St->Hp->Prop)(σ:L2.St)(J:It)(H1:Hp):Prop:=
 ∃V:Nat->Nat->L2.St->Hp->Prop,(∃m,V 0 m σ H1)/\∀i m f H',V i m f H' ->
  (J.stop i H'/\L f H')\/(J.go i H'/\∀x H2,J.yld i H' x H2->g x f H2 λd k=>tc d k λb j=>
   if b=true then tk d j λy H5=>tv d H5 λz H6=>∃H7,ug H6 D y z H7/\∃m',m'<m/\V (i+1) m' d H7
   else ∃m',m'<m/\V (i+1) m' d j)
def yk{Z:Cx}{t1:aF}{f1:List aF}{fp:bd}{tn:Nat->au->Prop}{H:Hp}{s:aE}{g:TG}{tc:TT}{tk tv:TE}{Nn:L2.St->Hp->Prop}
  (hu:Z.A.units+1<cLine) (hc:Z.calm=true) (hxe:Z.xe=λ_ _=>False) (T:Turn Z.prog Z.w Z.K tg J fp it tn) (I:Inv Z pins σ H s) (st:tn 0 s.heap) (hf:∀b∈fp,mX Z pins H b) (hg:PG Z tg g) (ht:zU Z ifs tc) (hk:PE Z ek tk) (hv:PE Z ev tv) (goal:AU g tc tk tv D Nn σ J H) :
  codeAny (model Z.prog Z.w) Z.A (.compLoop (.DictComp ek ev [⟨t1,i1,f1,0⟩,⟨tg,i2,ifs,0⟩] scope pos) 1 (.ref it) (.ref D) Z.env) (λr s'=>r=.ok .next/\∃σ' H',Inv Z pins σ' H' s'/\Nn σ' H') s:=by
 obtain⟨V,⟨m0,v0⟩,B⟩:=goal;have stat:∀{H':Hp},(∀b∈fp,H' b=none)->∀b∈fp,mX Z pins H' b:=λhn b hb=>⟨hn b hb,(hf b hb).2⟩;refine gw rfl (λn s'=>∃i σ' H',Inv Z pins σ' H' s'/\tn i s'.heap/\(∀b∈fp,H' b=none)/\V i n σ' H') (λn M hI=>?_) m0 ⟨0,σ,H,I,st,λb hb=>(hf b hb).1,v0⟩;obtain⟨i,σ5,H5,I5,C,F,w5⟩:=hI;show wpAny _ Z.A ((compTurn (.DictComp ek ev [⟨t1,i1,f1,0⟩,⟨tg,i2,ifs,0⟩] scope pos) 1 (.ref it) (.ref D) Z.env).onRaise λx=>do noteFrame x _;theTreesLotGoes x) _ _ M;refine gH ?_;rw[wC];refine aJ (bX<|aJ ?_)
 rcases B i n σ5 H5 w5 with⟨G,q⟩|⟨go,step⟩
 ·refine ju (T.done Z rfl rfl rfl hc i pins M σ5 H5 _ I5 (stat F) C G) λr s6 h9=>?_;obtain⟨hr,I6⟩:=h9;subst hr;exact aO ⟨rfl,σ5,H5,I6,q⟩
 ·refine ju (T.item Z rfl rfl rfl hc i pins M σ5 H5 _ I5 (stat F) C go) λr s6 h9=>?_;obtain⟨u,hr,h6⟩:=h9;subst hr;kpc_g;f_are;have k:∀{α:Type} {t:Sem α} {Q Q':α->aE->Prop} {E:aa->aE->Prop} {s:aE},wpAny (model Z.prog Z.w) Z.A t Q Z.xe s->(∀a s,Q a s->Q' a s)->wpAny (model Z.prog Z.w) Z.A t Q' E s:=λh hQ=>by
   rw[hxe]at h;exact rR h hQ
  refine aJ<|k (hg _ s7 σ5 H7 x u _ I7' r7<|step x H7 y7) λ_ s8 ⟨σ8,H8,I8,q8⟩=>?_;refine aJ<|k (ht _ s8 σ8 H8 _ I8 q8) λok s9 ⟨H9,I9,L⟩=>?_;have j:∀{f:aE} {H10:Hp},Inv Z (pins++n5 fp s7.heap) σ8 H10 f->(∃m',m'<n/\V (i+1) m' σ8 H10) ->
    ∃m,m<n/\∃i σ' H',Inv Z pins σ' H' f/\tn i f.heap/\(∀b∈fp,H' b=none)/\V i m σ' H':=λ{f H10} I10 h9=>by
   obtain⟨m',hm,w10⟩:=h9;kj_on;obtain⟨o,e,d⟩:=T.obj _ _ st7 b hb;o_rec
  cases ok with
  | false=>
   rw[aU bf]at L;exact aO ⟨rfl,j I9 L⟩
  | true=>
   rw[aR rfl]at L;refine aJ<|aJ<|k (hk _ s9 σ8 H9 _ I9 L) λy f ⟨v10,H10,I10,U,N⟩=>?_;refine aJ<|cJ<|k (hv _ f σ8 H10 _ I10 N) λz s11 ⟨v11,H11,Y,W,H12,dp,O⟩=>?_;refine aJ<|bX<|cJ ?_;exact Dv (X:=Z) hu Y dp U W λs12 P=>aO ⟨rfl,j P O⟩
abbrev Kl (ob:HO)(cap:List<|bo)(g:TG)(tc:TT)(wi2:TI)(g2:TG)(tc2:TT)(tk tv:TE)(σ:L2.St)(Q:VK)(J:It)(H1:Hp):Prop:=∀D,H1 D=none ->
 ∃W:Nat->Nat->L2.St->Hp->Prop,(∃m,W 0 m (cap.map<|Fg σ)<|upd H1 D ob)/\∀i m f H',W i m f H' ->
  (J.stop i H'/\Q (.ref D) H')\/(J.go i H'/\∀x H2,J.yld i H' x H2->g x f H2 λd k=>tc d k λb j=>
   if b=true then wi2 d j (AU g2 tc2 tk tv D (λσ5 H5=>∃m',m'<m/\W (i+1) m' σ5 H5) d)
   else ∃m',m'<m/\W (i+1) m' d j)
abbrev Mq (ob:HO)(cap:List<|bo)(j:TI)(g:TG)(tc:TT)(wi2:TI)(g2:TG)(tc2:TT)(tk tv:TE):TE:=λσ H Q=>j σ H<|Kl ob cap g tc wi2 g2 tc2 tk tv σ Q
def JC{X:Cx}{use:Option<|aa->Sem Unit}{Q':aa->aE->Prop}{iter:aF}{N:ar}{wi wi2:TI}{g g2:TG}{tc tc2:TT}{tk tv:TE}{ob:HO}(hob:∀{P:ah}{w:af}{H:Hp}(h:au),sysModules<h.objs.size->jq P w H (h.push { cls:=.type "dict",data:=.dict #[]}) h.objs.size ob)(hu:X.A.units+1<cLine)(hc:X.calm=true)(S:CpScope X scope N cap)(hi:PI X tg iter wi)
  (hg:∀C s₀ H₀ ex,PG (iU X scope N C s₀ H₀ ex) tg g) (ht:∀C s₀ H₀ ex,zU (iU X scope N C s₀ H₀ ex) ifs tc) (hi2:∀C s₀ H₀ ex,PI (iU X scope N C s₀ H₀ ex) tg2 iter2 wi2)
  (hg2:∀C s₀ H₀ ex,PG (iU X scope N C s₀ H₀ ex) tg2 g2) (ht2:∀C s₀ H₀ ex,zU (iU X scope N C s₀ H₀ ex) ifs2 tc2) (hk:∀C s₀ H₀ ex,PE (iU X scope N C s₀ H₀ ex) ek tk) (hv:∀C s₀ H₀ ex,PE (iU X scope N C s₀ H₀ ex) ev tv)
  (hs:(∀x,foldedSetIterable iter X.env x=pure x)<|>ζ) (hs2:∀env x,foldedSetIterable iter2 env x=pure x:=by intro _ _;rfl)  : ∀(pins:bt) (s:aE) (σ:L2.St) (H:Hp) (Q:VK),Inv X pins σ H s->Mq ob cap wi g tc wi2 g2 tc2 tk tv σ H Q ->
  (∀(s6:aE) (C D:aq) (H5:Hp) (m:Str->bi),s6.heap.Ns C m->mX X pins H5 C->(∀h',Heap.SameBut C s6.heap h'->Inv X pins σ H5 { s6 with heap:=h' })->Q (.ref D) H5->∀v,compPost (model X.prog X.w) X.A X.xe use Q' (.ref D) C (.ok v) s6) ->
  wpAny (model X.prog X.w) X.A (comprehension (.DictComp ek ev [⟨tg,iter,ifs,0⟩,⟨tg2,iter2,ifs2,0⟩] scope pos) scope X.env (firstIterPos [⟨tg,iter,ifs,0⟩,⟨tg2,iter2,ifs2,0⟩] pos) newDict (firstAsync [⟨tg,iter,ifs,0⟩,⟨tg2,iter2,ifs2,0⟩]) (firstIter [⟨tg,iter,ifs,0⟩,⟨tg2,iter2,ifs2,0⟩] X.env) use) Q' X.xe s:=by
 intro pins s σ H Q I h hfin;k_ne;refine fj (use:=use) rfl hs (qx hfree) S.kind S.nm<|ju (hi pins s σ H _ I h) λxv s1 h1=>ju h1 λitv f h2=>?_;obtain⟨it,fp,tn,J,H2,rfl,I2,T,Y,f2,h2⟩:=h2;refine bS<|xw λL j old k=>?_;obtain⟨W,⟨m0,w0⟩,turn⟩:=h2 f.heap.objs.size I2.fresh;dsimp only at j old k ⊢;have I3:Inv X pins σ (upd H2 f.heap.objs.size ob) { f with heap:=f.heap.push { cls:=.type "dict",data:=.dict #[]}}:=I2.laid (a:=f.heap.objs.size) (o:=ob) (h':=f.heap.push { cls:=.type "dict",data:=.dict #[]}) (t':=f.toks) (λ_ _ q=>aQ _ q) (aP _)<|hob f.heap I2.big;have hfp:∀b∈fp,∃o,f.heap.get? b=some o:=λb hb=>by
  obtain⟨o,e,_⟩:=T.obj 0 _ Y b hb;exact⟨o,e⟩
 have neD:∀b∈fp,b≠f.heap.objs.size:=λb hb=>by
  obtain⟨o,e⟩:=hfp b hb;exact bB<|aZ e
 have f3:∀b∈fp,mX X pins (upd H2 f.heap.objs.size ob) b:=λb hb=>⟨by rw[iB<|neD b hb];exact(f2 b hb).1,(f2 b hb).2⟩;have hDC:f.heap.objs.size≠(f.heap.push { cls:=.type "dict",data:=.dict #[]}).objs.size:=by rw[dS];exact bB (bD _)
 have I4:=Ad (tk:=f.toks+([]:List<|Str×aa).length) (fp:=fp) S I3 f3 (λb hb=>by
  obtain⟨o,e⟩:=hfp b hb;exact⟨o,aQ _ e⟩) j k old
 have V:tn 0 L:=T.keep _ _ _ Y λb hb o e=>old b o<|aQ _ e;have stat:∀{H':Hp},(∀b∈fp,H' b=none)->∀b∈fp,mX (iU X scope N (f.heap.push { cls:=.type "dict",data:=.dict #[]}).objs.size { f with heap:=f.heap.push { cls:=.type "dict",data:=.dict #[]}} (upd H2 f.heap.objs.size ob) fp) [] H' b:=λhn b hb=>by
  have ok:=I4.ok;kpf_c
 have O:∀s4:aE,s4={ f with heap:=L,toks:=f.toks+([]:List<|Str×aa).length } ->
   codeAny (model X.prog X.w) X.A (.compLoop (.DictComp ek ev [⟨tg,iter,ifs,0⟩,⟨tg2,iter2,ifs2,0⟩] scope pos) 0 (.ref it) (.ref f.heap.objs.size)<|compEnvC scope (cellsFrom ((f.heap.push { cls:=.type "dict",data:=.dict #[]}).objs.size+1) scope.names<|oU X.env scope.names []) (f.heap.push { cls:=.type "dict",data:=.dict #[]}).objs.size X.env)
    (compPost (model X.prog X.w) X.A X.xe use Q' (.ref f.heap.objs.size) (f.heap.push { cls:=.type "dict",data:=.dict #[]}).objs.size) s4:=by
  rintro s4 rfl;refine gw rfl (λn s'=>∃i F H',Inv (iU X scope N (f.heap.push { cls:=.type "dict",data:=.dict #[]}).objs.size { f with heap:=f.heap.push { cls:=.type "dict",data:=.dict #[]}} (upd H2 f.heap.objs.size ob) fp) [] F H' s'/\tn i s'.heap/\(∀b∈fp,H' b=none)/\W i n F H') (λn s5 hI=>?_) m0 ⟨0,_,_,I4,V,λb hb=>(f3 b hb).1,w0⟩;obtain⟨i,σ5,H5,I5,st5,fr5,w5⟩:=hI;show wpAny _ X.A ((compTurn (.DictComp ek ev [⟨tg,iter,ifs,0⟩,⟨tg2,iter2,ifs2,0⟩] scope pos) 0 (.ref it) (.ref f.heap.objs.size)<|compEnvC scope (cellsFrom ((f.heap.push { cls:=.type "dict",data:=.dict #[]}).objs.size+1) scope.names<|oU X.env scope.names []) (f.heap.push { cls:=.type "dict",data:=.dict #[]}).objs.size X.env).onRaise λx=>do noteFrame x _;theTreesLotGoes x) _ _ s5;refine gH ?_;rw[xm];refine aJ (bX<|aJ ?_)
  rcases turn i n σ5 H5 w5 with⟨stop,q⟩|⟨go,step⟩
  ·refine ju (T.done (iU X scope N (f.heap.push { cls:=.type "dict",data:=.dict #[]}).objs.size { f with heap:=f.heap.push { cls:=.type "dict",data:=.dict #[]}} (upd H2 f.heap.objs.size ob) fp) rfl rfl rfl hc i [] s5 σ5 H5 _ I5 (stat fr5) st5 stop) λr s6 h9=>?_;obtain⟨hr,I6⟩:=h9;subst hr;obtain⟨m6,hn6,_⟩:=I6.loc;refine aO<|hfin s6 _ _ H5 m6 hn6 (I3.uN (aP _) I6.free) (λh' sb=>?_) q _;have u6:=I6.base;have nC:∀b o,(f.heap.push { cls:=.type "dict",data:=.dict #[]}).get? b=some o->b≠(f.heap.push { cls:=.type "dict",data:=.dict #[]}).objs.size:=λb o e=>bB<|aZ e;kd_p
   ·exact sb.extBut b o (nC b o e) (u6.keep b o e n hb hx)
   ·obtain⟨sl,z⟩:=u6.slot b o e n hb hx;exact⟨sl,sb.extBut b _ (nC b o e) z⟩
   ·exact u6.free b o e n hx
   ·obtain⟨o',z⟩:=u6.there b o e hx;exact⟨o',sb.extBut b _ (nC b o e) z⟩
   ·intro b o e;have hb:∀c v,H5 c=some v->c≠(f.heap.push { cls:=.type "dict",data:=.dict #[]}).objs.size:=λc v e z=>by
     rw[z]at e;have:=I6.free;rw[show H5 (f.heap.push { cls:=.type "dict",data:=.dict #[]}).objs.size=none from this]at e
     cases e
    refine(I6.hok b o e).stay (λc v hc q=>sb.extBut c v ?_ q) (λ_ q=>q) λ_ _ q=>q
    rcases hc with z|z
    ·rw[z];exact hb b o e
    ·exact hb c _ z
   ·intro b hb;obtain⟨_,z1,_,z3,z4,z5⟩:=f3 b hb;exact⟨z3,z1,z4,z5⟩
  ·refine ju (T.item (iU X scope N (f.heap.push { cls:=.type "dict",data:=.dict #[]}).objs.size { f with heap:=f.heap.push { cls:=.type "dict",data:=.dict #[]}} (upd H2 f.heap.objs.size ob) fp) rfl rfl rfl hc i [] s5 σ5 H5 _ I5 (stat fr5) st5 go) λr s6 h9=>?_;obtain⟨u,hr,h6⟩:=h9;subst hr;kpc_g;f_are;kln_w;refine aJ<|rR (ht _ _ _ fp _ s8 σ8 H8 _ I8 q8) λok s9 ⟨H9,I9,q9⟩=>?_;have B:∀{G:aE} {H10:Hp} {t:L2.St},Inv (iU X scope N (f.heap.push { cls:=.type "dict",data:=.dict #[]}).objs.size { f with heap:=f.heap.push { cls:=.type "dict",data:=.dict #[]}} (upd H2 f.heap.objs.size ob) fp) ([]++n5 fp s7.heap) t H10 G->(∃m',m'<n/\W (i+1) m' t H10) ->
     ∃m,m<n/\∃i F H',Inv (iU X scope N (f.heap.push { cls:=.type "dict",data:=.dict #[]}).objs.size { f with heap:=f.heap.push { cls:=.type "dict",data:=.dict #[]}} (upd H2 f.heap.objs.size ob) fp) [] F H' G/\tn i G.heap/\(∀b∈fp,H' b=none)/\W i m F H':=λ{G H10 t} I10 h9=>by
    obtain⟨m',hm,w10⟩:=h9;refine⟨m',hm,i+1,t,H10,I10.kg,T.keep _ _ _ st7 λb hb o e=>(I10.pin (b,o)<|aT _<|aT _<|jd hb e).1,λb hb=>?_,w10⟩;obtain⟨o,e,d⟩:=T.obj _ _ st7 b hb;o_rec
   cases ok with
   | false=>
    rw[aU bf]at q9;exact aO ⟨rfl,B I9 q9⟩
   | true=>
    rw[aR rfl]at q9;refine aJ<|rR (hi2 _ _ _ fp _ s9 σ8 H9 _ I9 q9) λxv G h10=>aJ<|bX ?_;rw[hs2];refine aJ<|aO<|aJ<|cJ<|rR h10 λitv s11 h11=>?_;obtain⟨it2,fp2,tn2,J2,H11,rfl,U,T2,M,f11,goal⟩:=h11;have hcz:=hc;have K:=(λ(Z:Cx) (h1:Z.calm=true) (h2:Z.xe=λ_ _=>False) (h0:Z.A.units+1<cLine) T2 U=>yk (Z:=Z) (t1:=tg) (i1:=iter) (f1:=ifs) (i2:=iter2) (scope:=scope) (pos:=pos) h0 h1 h2 T2 U) _ (show(iU X scope N _ _ _ fp).calm=true from hcz) rfl (show(iU X scope N _ _ _ fp).A.units+1<cLine from hu) T2 U M f11 (hg2 _ _ _ fp) (ht2 _ _ _ fp) (hk _ _ _ fp) (hv _ _ _ fp) goal;refine aJ<|wpAny_runOwn<|gv (oW K<|T2.self _ 0 _ _ _ M K) λr s12 hr12=>?_;obtain⟨hr,σ12,H12,I12,n12⟩:=hr12;subst hr;exact aO ⟨rfl,B I12 n12⟩
 exact p9 (O _ rfl)<|T.self _ 0 _ _ _ V<|O _ rfl
end L2
namespace Am
open PySem PySem.Spec PyProof.Rows L2
def OD{α:Type}{c:Prop}[Decidable c]{r:R α}{a:α}(h:gd c r=.ok a S):c/\r=.ok a S:=by
 unfold gd at h;by_cases hc:c
 ·rw[aR hc]at h;exact⟨hc,h⟩
 ·rw[aU hc]at h;cases h
def II{α:Type}{l m:List α}{n:Nat}{p:α}(h:l <+: m)(e:l[n]?=some p):m[n]?=some p:=by
 obtain⟨t,rfl⟩:=h;rw[aS (aK.mp e).1,e]
abbrev tU (st:A->A->A->iC->R Unit)(s:Src)(g:Tg)(t:Te)(ek ev:Ex)(n:Nat):Nat->Nat->ae->iC->R (ae)
 | 0,_=>λτ S=>if s.fin S then .ok τ S else .no
 | k+1,i=>λτ S=>opt (s.get i S) λx=>(g x τ S).jb λτ1 S1=>(t τ1 S1).jb λb S2=>match b with
  | true=>(ek τ1 S2).jb λy S3=>(ev τ1 S3).jb λz S4=>(st (.ref n) y z S4).jb λ_ S5=>tU st s g t ek ev n k (i+1) τ1 S5
  | false=>tU st s g t ek ev n k (i+1) τ1 S2
def DC{st:A->A->A->iC->R Unit}{s:Src}{g:Tg}{t:Te}{ek ev:Ex}{n k:Nat}{T:Prop}(h:tU st s g t ek ev n (k+1) i τ S=.ok τ' S')
  (q:∀x τ1 S1 b S2,s.get i S=some x->g x τ S=.ok τ1 S1->t τ1 S1=.ok b S2->(b=true->∃y S3 z S4 u S5,ek τ1 S2=.ok y S3/\ev τ1 S3=.ok z S4/\st (.ref n) y z S4=.ok u S5/\tU st s g t ek ev n k (i+1) τ1 S5=.ok τ' S')->(b=false->tU st s g t ek ev n k (i+1) τ1 S2=.ok τ' S')->T):T:=by
 obtain⟨x,hx,h⟩:=sP h;obtain⟨τ1,S1,h1,h⟩:=i6 h;obtain⟨b,S2,h2,h⟩:=i6 h;mg_lt
 ·subst hb;obtain⟨y,S3,f,h⟩:=i6 h;obtain⟨z,S4,j,h⟩:=i6 h;obtain⟨u,S5,d,h⟩:=i6 h;exact⟨y,S3,z,S4,u,S5,f,j,d,h⟩
 ·subst hb;exact h
structure DKind (K:aA)(o:O)(ob:HO)(st:A->A->A->iC->R Unit):Prop where
 obj:∀{P:ah} {w:af} {H:Hp} (h:au),sysModules<h.objs.size->jq P w H (h.push { cls:=.type "dict",data:=.dict #[]}) h.objs.size ob
 new:∀{ρ:bd} {H:Hp} {S:iC} {p:aq},Rel K ρ H S->H p=none->Ext ρ (ρ++[p]) H (upd H p ob)/\Rel K (ρ++[p]) (upd H p ob) (S++[o])/\(ρ++[p])[S.length]?=some p
 put:∀{ρ:bd} {H:Hp} {S S':iC} {n:Nat} {p:aq} {y z:A} {vy vz:V} {u:Unit},Rel K ρ H S->ρ[n]?=some p->AV K ρ H y vy->AV K ρ H z vz->st (.ref n) y z S=.ok u S'->∃H',ug H p vy vz H'/\Ext ρ ρ H H'/\Rel K ρ H' S'
def Ph{K:aA}:DKind K (.mY []) (.dK []) qd:=by
 refine⟨λh hb=>EC h hb,λR hp=>R.QL (xs:=[]) (vs:=[]) hp trivial,λ{ρ H S S' n p y z vy vz u} R hp ay az h=>?_⟩;unfold qd at h
 cases y with
 | int k=>
  obtain⟨kvs,hn,h⟩:=sP h;obtain⟨g,h⟩:=OD h
  cases h
  cases ay
  obtain⟨ks,e,d⟩:=R.mY hp<|m5 hn;obtain⟨ex,f⟩:=R.zO hp (m5 hn)<|d.put az k;exact⟨_,ug.k (k:=Sum.inl k) e<|by rw[<- d.length];exact g,ex,f⟩
 | _=>cases h
end Am
namespace L2
open PySem PySem.Spec PyProof.Rows
def De{X:Cx}{i:Nat}{U:Pos}{iter:aF}{N:ar}{wi wi2:TI}{g g2:TG}{tc tc2:TT}{tk tv:TE}{ob:HO}(Z:∀{P:ah}{w:af}{H:Hp}(h:au),sysModules<h.objs.size->jq P w H (h.push { cls:=.type "dict",data:=.dict #[]}) h.objs.size ob)(hu:X.A.units+1<cLine)
  (hN:X.N.Nodup) (hi':X.N[i]?=some y) (hx:Loc X.env.scope y) (hc:X.calm=true) (S:CpScope X scope N cap) (hi:PI X tg iter wi)
  (hg:∀C s₀ H₀ ex,PG (iU X scope N C s₀ H₀ ex) tg g) (ht:∀C s₀ H₀ ex,zU (iU X scope N C s₀ H₀ ex) ifs tc) (hi2:∀C s₀ H₀ ex,PI (iU X scope N C s₀ H₀ ex) tg2 iter2 wi2)
  (hg2:∀C s₀ H₀ ex,PG (iU X scope N C s₀ H₀ ex) tg2 g2) (ht2:∀C s₀ H₀ ex,zU (iU X scope N C s₀ H₀ ex) ifs2 tc2) (hk:∀C s₀ H₀ ex,PE (iU X scope N C s₀ H₀ ex) ek tk) (hv:∀C s₀ H₀ ex,PE (iU X scope N C s₀ H₀ ex) ev tv)
  (hsw:swapsWith (.DictComp ek ev [⟨tg,iter,ifs,0⟩,⟨tg2,iter2,ifs2,0⟩] scope pos) (some<|.Name y py) U.line X.env=pure true)
  (hf:X.fn y=true\/X.env.scope.names.lookup y=some .local) (hs:(∀x,foldedSetIterable iter X.env x=pure x)<|>ζ) (hs2:∀env x,foldedSetIterable iter2 env x=pure x:=by intro _ _;rfl) :
  PS X (.Assign [.Name y py] (.DictComp ek ev [⟨tg,iter,ifs,0⟩,⟨tg2,iter2,ifs2,0⟩] scope pos) U) (ER (Mq ob cap wi g tc wi2 g2 tc2 tk tv)<|BE i):=by
 ksr_p;rw[exec_Assign_Name_used _ _ _ _ hsw];refine aJ<|bX<|aJ ?_;show wpAny _ X.A (do let _ <- comprehension (.DictComp ek ev [⟨tg,iter,ifs,0⟩,⟨tg2,iter2,ifs2,0⟩] scope pos) scope X.env (firstIterPos [⟨tg,iter,ifs,0⟩,⟨tg2,iter2,ifs2,0⟩] pos) newDict (firstAsync [⟨tg,iter,ifs,0⟩,⟨tg2,iter2,ifs2,0⟩]) (firstIter [⟨tg,iter,ifs,0⟩,⟨tg2,iter2,ifs2,0⟩] X.env) (some<|assign (.Name y py) X.env)) _ _ s;refine aJ<|c9 (JC (Q':=λ_ s'=>SP X pins D .next s') Z hu hc S hi hg ht hi2 hg2 ht2 hk hv hs hs2 pins s σ H _ I h ?_) (λ_ s' K=>aO<|aO K) λ_ _ e=>e;intro k C F H5 m hn j inv q v;have O:=inv k.heap<|Heap.SameBut.refl _ _;obtain⟨J,f⟩:∃o,k.heap.get? C=some o/\∀v,o.data≠.cell v:=by
  obtain⟨o,es,ep,e,d,_⟩:=hn;exact⟨o,e,λv z=>by rw[d]at z;cases z⟩
 have M:=O.pinned (fp:=[C]) (λb hb=>by rw[br]at hb;rw[hb];exact j) (λb hb=>by rw[br]at hb;rw[hb];exact⟨J,f⟩);show wpAny _ X.A (assign (.Name y py) X.env<|.ref F) _ _ k;refine ju (xJ hN hi' hx hf _ k σ H5 (.ref F) (.ref F) _ M rfl q) λ_ s7 h9=>?_;obtain⟨B,H7,I7,L⟩:=h9;have hp:=I7.pin (C,J)<|aT _<|aT _<|jd (br.mpr rfl) f.1;refine⟨m,hn.at' λo e=>by rw[f.1]at e;cases e;exact hp.1,λh' t=>?_⟩;have G:∀c v,H7 c=some v->c≠C:=λc v e z=>by rw[z,hp.2.1]at e;cases e
 refine⟨B,H7,?_,L⟩;refine I7.kg.yO (ch:=[C]) rfl ⟨λb o e n hb hx=>?_,λb o e n hb hx=>?_,λb o e n hx=>n,λb o e hx=>?_,λ_ _ e=>e,λ_ _ _ e=>e,λ_ _ e=>⟨#[],by rw[Array.append_empty];exact e⟩⟩ ?_ I7.bare ?_
 ·exact t.extBut b o (by simpa using hx) e
 ·exact⟨o.slots,t.extBut b o (by simpa using hx) e⟩
 ·exact⟨o,t.extBut b o (by simpa using hx) e⟩
 ·intro b o e;refine(I7.hok b o e).stay (λc v hc q=>t.extBut c v ?_ q) (λ_ q=>q) λ_ _ q=>q
  rcases hc with z|z
  ·rw[z];exact G b o e
  ·exact G c _ z
 ·intro b hb;rw[br]at hb;rw[hb];exact⟨j.2.2.2.1,j.2.1,j.2.2.2.2.1,j.2.2.2.2.2⟩
end L2
namespace Am
open PySem PySem.Spec PyProof.Rows L2
abbrev oN (st:A->A->A->iC->R Unit)(s:Src)(g:Tg)(t:Te)(src2:Ic)(g2:Tg)(t2:Te)(ek ev:Ex)(n:Nat):Nat->Nat->ae->iC->R (ae)
 | 0,_=>λτ S=>if s.fin S then .ok τ S else .no
 | k+1,i=>λτ S=>opt (s.get i S) λx=>(g x τ S).jb λτ1 S1=>(t τ1 S1).jb λb S2=>match b with
  | true=>(src2 τ1 S2).jb λf S3=>(tU st f g2 t2 ek ev n f.k 0 τ1 S3).jb λd S4=>oN st s g t src2 g2 t2 ek ev n k (i+1) d S4
  | false=>oN st s g t src2 g2 t2 ek ev n k (i+1) τ1 S2
abbrev FO (o:O)(st:A->A->A->iC->R Unit)(cap:List<|bo)(src:Ic)(g:Tg)(t:Te)(src2:Ic)(g2:Tg)(t2:Te)(ek ev:Ex):Ex:=λτ S=>(src τ S).bind λs S1=>(oN st s g t src2 g2 t2 ek ev S1.length s.k 0 (lA cap τ)<|S1++[o]).jb λ_ S2=>.ok (.ref S1.length) S2
def zL{st:A->A->A->iC->R Unit}{s:Src}{g:Tg}{t:Te}{src2:Ic}{g2:Tg}{t2:Te}{ek ev:Ex}{n k:Nat}{T:Prop}(h:oN st s g t src2 g2 t2 ek ev n (k+1) i τ S=.ok τ' S')
  (q:∀x τ1 S1 b S2,s.get i S=some x->g x τ S=.ok τ1 S1->t τ1 S1=.ok b S2->(b=true->∃s2 S3 τ2 S4,src2 τ1 S2=.ok s2 S3/\tU st s2 g2 t2 ek ev n s2.k 0 τ1 S3=.ok τ2 S4/\oN st s g t src2 g2 t2 ek ev n k (i+1) τ2 S4=.ok τ' S')->(b=false->oN st s g t src2 g2 t2 ek ev n k (i+1) τ1 S2=.ok τ' S')->T):T:=by
 obtain⟨x,hx,h⟩:=sP h;obtain⟨τ1,S1,h1,h⟩:=i6 h;obtain⟨b,S2,h2,h⟩:=i6 h;mg_lt
 ·subst hb;obtain⟨s2,S3,d,h⟩:=i6 h;obtain⟨τ2,S4,f,h⟩:=i6 h;exact⟨s2,S3,τ2,S4,d,f,h⟩
 ·subst hb;exact h
section
variable {X:Cx}{pos:Pos}{tg iter tg2 iter2 ek ev:aF}{ifs ifs2:List aF}{scope:Scope}{N:ar}{cap:List (bo)}{src src2:Ic}{g g2:Tg}{t t2:Te}{ck cv:Ex}{o:O}{ob:HO}{st:A->A->A->iC->R Unit}
def Kh(dk:DKind X.K o ob st)(σ:L2.St)(H:Hp)(Q:VK)(h9:tE X (FO o st cap src g t src2 g2 t2 ck cv) σ H Q):Mq ob cap (tI X src) (IZ X.K g) (Hq X.K t) (QD X.K src2) (IZ X.K g2) (Hq X.K t2) (Jd X.K ck) (Jd X.K cv) σ H Q:=by
 z_go;refine⟨ρ,S,τ,R,r,iz (iD h) .refl λs S1 h1 ρ1 H1 J e1 R1 jr D hD=>?_⟩;obtain⟨τ2,S2,hcg,h1⟩:=qC h1;have h1:tM X ρ H Q (.ref S1.length) S2:=h1;obtain⟨eD,RD,atD⟩:=dk.new R1 hD;refine⟨λi m P H'=>∃ρ' S' F,i+m=s.k/\Ext (ρ1++[D]) ρ' (upd H1 D ob) H'/\Rel X.K ρ' H' S'/\SR X.K ρ' H' F P/\oN st s g t src2 g2 t2 ck cv S1.length m i F S'=.ok τ2 S2,⟨s.k,ρ1++[D],S1++[o],lA cap τ,(),.refl,RD,Gj ((r.ext e1).ext eD) cap,hcg⟩,?_⟩;rintro i m σ3 H3 ⟨ρ3,S3,τ3,hm,e3,R3,r3,f⟩;have at3:ρ3[S1.length]?=some D:=II e3.pre atD;have Y:=eD.trans e3
 cases m with
 | zero=>
  left;have f:(if s.fin S3 then Am.R.ok τ3 S3 else .no)=.ok τ2 S2:=f
  cases hf:s.fin S3 with
  | false=>rw[hf]at f;cases f
  | true=>
   rw[hf]at f
   cases f
   exact⟨by rw[show i=s.k by lia];exact jr.stop _ H3 ρ3 Y.toExt0 R3 hf,h1 ρ3 H3 _ (e1.trans Y) R3<|.ref at3⟩
 | succ m=>
  right;refine zL f λx τ4 S4 b S5 hx hg4 ht5 hT hF=>?_;have jg:=jr.go i S3 H3 ρ3 x Y.toExt0 R3 hx;refine⟨jg.1,λv H4 y=>?_⟩;obtain⟨e4,R4,v4⟩:=jg.2 v H4 y;gp_on;have e36:=(e4.trans e5).trans e6
  cases b with
  | false=>
   dsimp only;rw[aU bf];exact⟨m,bD _,ρ6,S5,τ4,(),e3.trans e36,R6,r5.ext e6,hF rfl⟩
  | true=>
   dsimp only;rw[aR rfl];obtain⟨W,S6,τ7,S7,hs6,ci7,co7⟩:=hT rfl;refine⟨ρ6,S5,τ4,W,S6,R6,r5.ext e6,hs6,λρ8 H8 J2 e8 R8 jr2=>?_⟩;have e38:=e36.trans e8;refine⟨λi2 m2 P H'=>∃ρ' S' F,i2+m2=W.k/\Ext ρ8 ρ' H8 H'/\Rel X.K ρ' H' S'/\SR X.K ρ' H' F P/\tU st W g2 t2 ck cv S1.length m2 i2 F S'=.ok τ7 S7,⟨W.k,ρ8,S6,τ4,(),.refl,R8,r5.ext<|e6.trans e8,ci7⟩,?_⟩;rintro i2 m2 σ9 H9 ⟨L,S9,τ9,hm2,Z,R9,r9,j⟩
   cases m2 with
   | zero=>
    left;have j:(if W.fin S9 then Am.R.ok τ9 S9 else .no)=.ok τ7 S7:=j
    cases hf:W.fin S9 with
    | false=>rw[hf]at j;cases j
    | true=>
     rw[hf]at j
     cases j
     exact⟨by rw[show i2=W.k by lia];exact jr2.stop _ H9 L Z.toExt0 R9 hf,m,bD _,L,_,_,(),(e3.trans e38).trans Z,R9,r9,co7⟩
   | succ m2=>
    right;refine DC j λx9 d S10 b10 V hx9 hg10 ht11 hT9 hF9=>?_;have jg2:=jr2.go i2 S9 H9 L x9 Z.toExt0 R9 hx9;refine⟨jg2.1,λv10 H10 y10=>?_⟩;obtain⟨e10,R10,v10'⟩:=jg2.2 v10 H10 y10;refine⟨L,S9,τ9,x9,d,S10,R10,r9.ext e10,v10',hg10,λρ11 H11 σ11 e11 R11 G=>⟨ρ11,S10,d,b10,V,R11,G,ht11,λO H12 B R12=>?_⟩⟩;have N:=(e10.trans e11).trans B
    cases b10 with
    | false=>
     dsimp only;rw[aU bf];exact⟨m2,bD _,O,V,d,(),Z.trans N,R12,G.ext B,hF9 rfl⟩
    | true=>
     dsimp only;rw[aR rfl];obtain⟨y,S13,z,S14,u,S15,hy,hz,hst,cg15⟩:=hT9 rfl;refine⟨O,V,d,y,S13,R12,G.ext B,hy,λρ13 H13 vy C R13 a13=>⟨ρ13,S13,d,z,S14,R13,G.ext<|B.trans C,hz,λρ14 H14 vz U R14 a14=>?_⟩⟩;have M:=(N.trans C).trans U;obtain⟨H15,dp,e15,R15⟩:=dk.put R14 (II (((e3.trans e38).trans Z).trans M).pre atD) (a13.ext U) a14 hst;exact⟨H15,dp,m2,bD _,ρ14,S15,d,(),(Z.trans M).trans e15,R15,G.ext<|((B.trans C).trans U).trans e15,cg15⟩
def C9(dk:∀K,DKind K o ob st)(hu:X.A.units+64<cLine){i:Nat}{x:Str}{j:Pos}(hN:X.N.Nodup)(hc:X.calm=true)(Sc:CpScope X scope N cap)(hi:AI X tg iter src)(hg:∀C s₀ H₀ ex,AG (iU X scope N C s₀ H₀ ex) tg g)(ht:∀C s₀ H₀ ex,LQ (iU X scope N C s₀ H₀ ex) ifs t)(J:∀C s₀ H₀ ex,AI (iU X scope N C s₀ H₀ ex) tg2 iter2 src2)
  (L:∀C s₀ H₀ ex,AG (iU X scope N C s₀ H₀ ex) tg2 g2) (M:∀C s₀ H₀ ex,LQ (iU X scope N C s₀ H₀ ex) ifs2 t2) (hk:∀C s₀ H₀ ex,AE (iU X scope N C s₀ H₀ ex) ek ck) (hv:∀C s₀ H₀ ex,AE (iU X scope N C s₀ H₀ ex) ev cv)
  (U:X.N[i]?=some x<|>ε) (hx:Loc X.env.scope x:=by first|exact Or.inl rfl|exact Or.inr rfl)
  (Z:(swapsWith (.DictComp ek ev [⟨tg,iter,ifs,0⟩,⟨tg2,iter2,ifs2,0⟩] scope pos) (some<|.Name x pos') j.line X.env=pure true)<|>ε) (hf:X.fn x=true\/X.env.scope.names.lookup x=some .local<|>γ)
  (hs:(∀x,foldedSetIterable iter X.env x=pure x)<|>ζ) (hs2:∀env x,foldedSetIterable iter2 env x=pure x:=by intro _ _;rfl):AS X (.Assign [.Name x pos'] (.DictComp ek ev [⟨tg,iter,ifs,0⟩,⟨tg2,iter2,ifs2,0⟩] scope pos) j) (jf (FO o st cap src g t src2 g2 t2 ck cv)<|i_ i):=
 PS.imp (De (dk X.K).obj () hN U hx hc Sc hi (g:=IZ X.K g) (tc:=Hq X.K t) (wi2:=QD X.K src2) (g2:=IZ X.K g2) (tc2:=Hq X.K t2) (tk:=Jd X.K ck) (tv:=Jd X.K cv) (λC s₀ H₀ ex=>(hg C s₀ H₀ ex).g0 rfl) (λC s₀ H₀ ex=>ht C s₀ H₀ ex) (λC s₀ H₀ ex=>(J C s₀ H₀ ex).i0 rfl) (λC s₀ H₀ ex=>(L C s₀ H₀ ex).g0 rfl) (λC s₀ H₀ ex=>M C s₀ H₀ ex) (λC s₀ H₀ ex=>(hk C s₀ H₀ ex).e0 rfl) (λC s₀ H₀ ex=>(hv C s₀ H₀ ex).e0 rfl) Z hf hs hs2) λD σ H ⟨ρ,S,τ,R,r,h⟩=>
  Kh (dk X.K) σ H _ ⟨ρ,S,τ,R,r,iz (of_post h) .refl λa S1 h1 ρ1 H1 x e1 d f=>h1 ρ1 H1 _ e1 d<|(r.ext e1).set f⟩
end
abbrev GG (x:A)(S:iC):R A:=match x with
 | .ref n=>opt (pL S n) λkvs=>.ok (.int kvs.length) S
 | _=>.no
def JX{n:Nat}:GG (.ref n) S=opt (pL S n) λkvs=>.ok (.int kvs.length) S:=rfl
def NS:jc X (.builtin "len") (rN X<|f1 GG):=λpins s σ H xs us Q I r h0=>by
 kcf_m;clear h0
 cases hv with
 | ref hp=>
  obtain⟨kvs,hn,h⟩:=iF h;obtain⟨ks,e,d⟩:=R.mY hp<|m5 hn;kst_p
  cases rx
  exact PM I (.inl e) λt s' f=>⟨.int ks.length,H,f,⟨_,rfl⟩,by rw[<- d.length];exact h _ _ _ .refl R<|.int _⟩
 | _=>exact h.elim
section
abbrev Nr (p:ag×A):A:=.tup<|p.1.map .int
end
section
variable {X:Cx}{pos:Pos}{a b:aF}
abbrev m_ (S:iC)(n:Nat):Option (List<|ag×A):=match S[n]? with
 | some (.dct kvs)=>some kvs
 | some (.dcf kvs)=>some kvs
 | _=>none
def Jq{K:aA}{H:Hp}{n:Nat}{p:aq}(R:Rel K ρ H S)(hp:ρ[n]?=some p)(hn:m_ S n=some kvs):∃ks,Rd H p (.dT ks)/\DV K ρ H kvs ks:=by
 unfold m_ at hn;split at hn
 ·rename_i h
  cases hn
  obtain⟨ks,e,d⟩:=R.at n p _ hp h;exact⟨ks,.inl e,d⟩
 ·rename_i h
  cases hn
  obtain⟨o,ks,e,d⟩:=R.at n p _ hp h;exact⟨ks,.inr ⟨o,e⟩,d⟩
 ·cases hn
def HP{H:Hp}{p q:aq}{n:Nat}{ns:ag}(R:Rel X.K ρ H S)(hp:ρ[n]?=some p)(hn:m_ S n=some kvs)(j:H q=some (.tup vs))(r:AVs X.K ρ H xs vs)(hi:A.ints xs=some ns) :
  ∃ks,DV X.K ρ H kvs ks/\tR H p (.ref q) (mL ks<|ns.map Sum.inl):=by
 obtain⟨ks,e,d⟩:=Jq R hp hn;have z:=oF r hi;subst z;rw[<- rm]at j;exact⟨ks,d,.inr ⟨ks,ns.map Sum.inl,q,e,rfl,j,rfl⟩⟩
abbrev wF (x y:A)(S:iC):R A:=match x,y with
 | .ref n,.tup xs=>opt (m_ S n) λkvs=>opt (A.ints xs) λd=>opt (jW kvs d) λv=>.ok v S
 | _,_=>.no
def Pg(J:X.A.units+64<cLine):K3 X (r2 X wF):=λj f pins s σ H x y v u Q I rx ry ⟨ρ,S,a,b,R,va,vb,h⟩ hs=>by
 cases va with
 | @ref p n hp=>
  cases vb with
  | @tup q xs C m r=>
   obtain⟨kvs,hn,h⟩:=iF h;obtain⟨k,hi,h⟩:=iF h;obtain⟨z,t,h⟩:=iF h;obtain⟨ks,d,g⟩:=HP R hp hn m r hi;obtain⟨w,hw,B⟩:=(d.look k).2 z t;rw[hw]at g;exact A_ () j f pins s σ H _ _ v u Q I rx ry ⟨p,w,rfl,g,h _ _ _ .refl R B⟩ hs
  | _=>exact h.elim
 | _=>exact h.elim
def F0(j:X.A.units+64<cLine){ca cb:Ex}(J:AE X a ca)(hb:AE X b cb)(hs:uc b<|>θ):AE X (.Subscript a b pos) (iL wF ca cb):=PE.imp (FY (Pg j) J hb hs) λσ H Q h=>p6 h
def Rel.OC{K:aA}{H:Hp}{S:iC}{n:Nat}{a:aq}{ks:List<|List Key×V}(R:Rel K ρ H S)(j:ρ[n]?=some a)(J:S[n]?=some (.dct xs))(d:DV K ρ H xs ks):Ext ρ ρ H (upd H a<|.frz o<|.dT ks)/\Rel K ρ (upd H a<|.frz o<|.dT ks) (S.set n<|.dcf xs):=by
 obtain⟨ex,R2⟩:=R.gone (o:=o) (u:=.dT ks) j J;refine⟨ex,by rw[bG];exact R.len,R.nd,λm b ob h1 h2=>?_⟩;by_cases hm:m=n
 ·subst hm;rw[j]at h1;cases h1;rw[bF (aK.mp J).1]at h2
  cases h2
  exact⟨o,ks,iW,d.ext ex⟩
 ·rw[bE<|b_ hm]at h2;exact R2.at m b ob h1<|by rw[bE<|b_ hm];exact h2
abbrev MG (a:A)(S:iC):R Src:=match a with
 | .ref n=>opt (jE S n) λkvs=>.ok (nG<|kvs.map Nr) (S.set n<|.dcf kvs)
 | _=>.no
abbrev Jo (c:Ex):Ic:=λτ S=>(c τ S).bind λa S1=>MG a S1
def yI{c:Ex}(U:AE X e c):AI X tg e (Jo c):=λpins s σ H Q I h9=>by
 z_go;refine KH U pins s σ H Q I ⟨ρ,S,τ,R,r,iz (iD h) .refl λx S1 h1 ρ1 H1 v e1 R1 L=>?_⟩
 cases L with
 | @ref p n hp=>
  obtain⟨kvs,hn,h1⟩:=iF h1;obtain⟨ks,g1,k⟩:=R1.dct hp<|jx hn;refine⟨p,ks,rfl,g1,λo d B f=>?_⟩;obtain⟨ex,R2⟩:=R1.OC (o:=o) hp (jx hn) k;have dl:=k.length;refine h1 ρ1 _ _ (e1.trans ex) R2 ⟨λi S2 H2 j y e2 z g=>?_,λS2 H2 j e2 z _=>⟨?_,e2.im _ _ trivial iW⟩⟩
  ·have g:(kvs.map Nr)[i]?=some y:=g;rw[aX]at g;obtain⟨O,F,rfl⟩:=bh.mp g;obtain⟨q,C,G,M⟩:=LX k F;have hi:i<d.length:=by rw[B];exact(aK.mp C).1
   have e4:=f i d[i] q (aH hi) C;refine⟨⟨⟨d[i],aH hi⟩,e2.im _ _ trivial iW⟩,λN H' J=>?_⟩;obtain⟨rfl,K⟩:=J;have m:=K _<|aH hi;subst m;have t:H' d[i]=some (.tup<|q.1.map kV):=e2.im _ _ trivial<|ex.toExt0.im _ _ trivial e4;rw[G,rm]at t;exact⟨.refl,z,.tup t<|pQ _⟩
  ·show(kvs.map Nr).length=d.length;rw[aL,dl,B]
 | _=>exact h1.elim
end
end Am
namespace L2
open PySem PySem.Spec PyProof.Rows
section
variable {P:ah}{w:af}
meta abbrev tK (P:ah)(w:af):=tupleKind<|jB P w
end
section
variable {P:ah}{w:af}{A:aC}{s:aE}
abbrev th (P:ah)(w:af)(k:List Key):Int:=(tK P w).hash k
def xx{es:List DictEntry}(h:(es.map (·.hash)).Nodup):∀e∈es,(es.filter (·.hash == e.hash)).length<=1:=by
 induction es with
 | nil=>intro e d;cases d
 | cons x es f=>
  rw[bC,bO]at h;intro e d;by_cases q:(x.hash == e.hash)=true
  ·rw[List.filter_cons_of_pos (p:=λy:DictEntry=>y.hash == e.hash) q];have:es.filter (λy=>y.hash == e.hash)=[]:=by
    rw[List.filter_eq_nil_iff];intro y hy z;have e1:x.hash=e.hash:=by simpa using q
    have e2:y.hash=e.hash:=by simpa using z
    exact h.1<|by rw[e1,<- e2];exact bK.2 ⟨y,hy,rfl⟩
   rw[this];exact aP _
  ·rw[fF (p:=λy:DictEntry=>y.hash == e.hash) q]
   rcases a_.1 d with rfl|d
   ·exact absurd (by simp) q
   ·exact f h.2 e d
def As{id:String}{o:Obj}{es ep}{E:aa->aE->Prop}{Q:Array DictEntry->aE->Prop}(J:s.heap.get? d=some o)(hd:o.data=.dict es ep)
  (L:∀e∈es.toList,s.TypeIs e.key "tuple" /\ ∃a,e.key=.ref a) (hn:(es.toList.map (·.hash)).Nodup) (h:Q es s) :
  wpAny (model P w) A (Builtin.Dict.entriesForEmpty id d) Q E s:=by
 unfold Builtin.Dict.entriesForEmpty;refine aJ<|dG J hd ?_;refine aJ ?_;rw[<- Array.forIn_toList];refine wpAny_forIn_list _ (λrest _ s'=>s'=s/\∀e∈rest,e∈es.toList) _ ?_ ?_ _ _ ⟨rfl,λe g=>g⟩
 ·rintro x rest b s' ⟨rfl,hr⟩;obtain⟨j,a,k⟩:=L x<|hr x<|aM ..;refine aJ ?_;rw[k]at j;rw[k];show wpAny _ _ (specialOf (.ref a) "__eq__" >>= _) _ _ _;refine aJ<|wpAny_specialOf j F.slot_tuple_eq.lookup<|aO ?_;have f:=xx hn x<|hr x<|aM ..;have e1:(es.filter (·.hash == x.hash)).size<=1:=by
   rw[<- bZ,Array.toList_filter];exact f
  have e0:(some (Value.builtin "tuple.__eq__") == some (Value.builtin "object.__eq__"))=false:=by decide +kernel
  rw[e0,aR<|by rfl,aU ()];exact aO ⟨rfl,λe g=>hr e<|aN _ g⟩
 ·rintro b s' ⟨rfl,_⟩;exact aO h
end
section
variable {X:Cx}
def zM(hc:X.calm=true):jc X (.type "dict") (λxs H Q=>∃(p:aq) (kvs:List<|List Key×V),xs=[.ref p]/\Rd H p (.dT kvs)/\kvs≠[]/\(kvs.map λkv=>th X.prog X.w kv.1).Nodup /\
  ∀l,H l=none->Q (.ref l) (upd H l<|.dT kvs)):=by
 kt_k;obtain⟨p,kvs,rfl,hq,L,O,q⟩:=h;kst_p
 cases rx
 obtain⟨hz,P,xs,N,o,es,ep,ho,hx,hd,C,hk,hn⟩:=Ct I.hok hq;have lp:p<s.heap.objs.size:=aZ ho;have g:kvs.length=xs.length:=by
  have:∀{l:List<|List Key×V} {m:List<|List Key×aq×aa},KT H l m->l.length=m.length:=by
   intro l m q
   induction q with
   | nil=>rfl
   | cons _ _ U=>rw[bz,bz,U]
  exact this N
 have J:kvs.map (·.1)=xs.map (·.1):=by
  have:∀{l:List<|List Key×V} {m:List<|List Key×aq×aa},KT H l m->l.map (·.1)=m.map (·.1):=by
   intro l m q
   induction q with
   | nil=>rfl
   | cons h _ U=>rw[bC,bC,U,h.1]
  exact this N
 have Y:es.size=xs.length:=size_of_entries C;refine callType_codes (Q₁:=λobj f=>obj=.ref s.heap.objs.size/\f={ s with heap:=s.heap.push { cls:=.type "dict",data:=.dict #[]}}) F.kt_called_dict (F.kt_typeCall_dict_1 _) F.entry_dict_init (kt_code_dict_new _ ⟨rfl,rfl⟩) ?_;rintro obj f ⟨rfl,rfl⟩;have G:(s.heap.push { cls:=.type "dict",data:=.dict #[]}).DictOf (jB X.prog X.w) s.heap.objs.size []:=Heap.DictOf.new s.heap;have d:(s.heap.push { cls:=.type "dict",data:=.dict #[]}).get? s.heap.objs.size=some { cls:=.type "dict",data:=.dict #[]}:=bI _ rfl;have B:(s.heap.push { cls:=.type "dict",data:=.dict #[]}).get? p=some o:=aQ _ ho;have k:Shared.TypeIs { s with heap:=s.heap.push { cls:=.type "dict",data:=.dict #[]}} (.ref p) "dict" := ⟨o,B,hx.1⟩;have W:s.heap.objs.size≠p:=b_<|bB lp;refine⟨G.typeIs,F.args_dict_init_2 _ _,?_⟩;unfold Builtin.«dict.__init__»;refine aJ ?_;unfold Builtin.Dict.selfAndRest;refine aJ<|wpAny_notOrdered_dict G.typeIs ?_;show wpAny _ _ (pure (s.heap.objs.size,[Value.ref p])) _ _ _;refine aO ?_;show wpAny _ _ (Builtin.Dict.updateFrom "dict.__init__" s.heap.objs.size (.ref p) [] .none) _ _ _;unfold Builtin.Dict.updateFrom;refine aJ<|wpAny_typeOf k ?_;rw[aU ⋯];refine aJ ?_;unfold Builtin.Dict.merge;refine aJ ?_;unfold Builtin.Dict.readDirectly;refine aJ<|wpAny_isInstance k isSubtype_dict_dict ?_;dsimp[fu,c_,cY];refine aJ<|wpAny_specialOf k F.slot_dict_iter.lookup<|aO ?_;dsimp[cA,d8];refine aJ<|aO ?_;unfold Builtin.Dict.mergeDict;rw[aU<|by simpa using W];unfold Builtin.Dict.showsAll;rw[aU<|by rw[P];exact bf];refine aJ<|aO ?_;refine aJ<|dG B hd ?_;have tup:∀e∈es.toList,Shared.TypeIs { s with heap:=s.heap.push { cls:=.type "dict",data:=.dict #[]}} e.key "tuple" /\ ∃a,e.key=.ref a:=λe hm=>by
  rw[C]at hm;obtain⟨x,hx,rfl⟩:=bK.1 hm;obtain⟨o2,a2,n2,h2,c2,_⟩:=hk x hx;exact⟨⟨o2,aQ _ h2,c2⟩,_,rfl⟩
 have Z:es.toList≠[]:=by rw[C];intro z;have:=eW.1 z;exact L (dW.1<|by rw[g,this];rfl)
 have M:(es.all λe=>(keyPart e.key).isSome)=false:=by
  rw[<- Array.all_toList]
  cases e:es.toList with
  | nil=>exact absurd e Z
  | cons x t=>
   obtain⟨_,a,ea⟩:=tup x (by rw[e];exact aM ..);rw[all_cons,ea];rfl
 dsimp only;rw[M,Bool.and_false,Bool.not_false,aR rfl];refine aJ<|dG d rfl ?_;rw[aR<|by rfl];have j:(es.toList.map (·.hash)).Nodup:=by
  rw[C,bL];have e1:xs.map ((·.hash) ∘ entryOfKey (tK X.prog X.w))=kvs.map λkv=>th X.prog X.w kv.1:=by
   have e2:xs.map ((·.hash) ∘ entryOfKey (tK X.prog X.w))=(xs.map (·.1)).map (th X.prog X.w):=by rw[bL];rfl
   rw[e2,<- J,bL];rfl
  rw[e1];exact O
 refine aJ<|As B hd tup j ?_;rw[aR (by
  have:es.isEmpty=false:=by
   cases e:es.isEmpty with
   | false=>rfl
   | true=>exact absurd (by rw[Array.isEmpty_iff.1 e]) Z
  rw[this];rfl)]
 have K:es.size<=sizeLine+1:=by rw[Y,<- g];lia
 refine aJ<|wpAny_updateDictKeysTo d rfl (aO ?_) K;show wpAny _ _ (Builtin.Dict.addKeywords s.heap.objs.size [] >>= _) _ _ _;refine aJ (aO<|aO ⟨rfl,.ref s.heap.objs.size,_,I.laid (t':=s.toks) (o:=.dT kvs) (λb ob eb=>?_) (aP _) ?_,rfl,q _<|I.hok.fresh<|aP _⟩)
 ·have lb:=aZ eb;rw[(gu ..).2 b<|bB lb];exact aQ _ eb
 ·refine⟨hz,cX.mpr<|b_<|bB I.big,xs,N.keeps λb ys hb=>?_,_,es,1,fR _ d<|Obj.isFreed_of_dict<|Obj.data_mapDictKeys rfl _,?_,Obj.data_mapDictKeys rfl _,C,hn⟩
  ·have:b≠s.heap.objs.size:=λz=>by rw[z,I.hok.fresh<|aP _]at hb;cases hb
   rw[iB this];exact hb
  ·exact(show Obj.ExactDict _ from⟨rfl,rfl,rfl⟩:Obj.ExactDict { cls:=.type "dict",data:=.dict #[]}).mapDictKeys _
end
end L2
namespace Am
open PySem PySem.Spec PyProof.Rows L2
abbrev hI (ns:ag):Int:=reduceHash<|Builtin.Tuple.tupleHashOf<|ns.map hashInt
def O3(P:ah)(w:af)(ns:ag):th P w (ns.map Sum.inl)=hI ns:=by
 show reduceHash (Builtin.Tuple.tupleHashOf<|(ns.map Sum.inl).map<|PD w)=_;rw[bL];rfl
section
variable {K:aA}{ρ:bd}{H:Hp}
theorem DV.th(P:ah)(w:af):∀{kvs:List<|ag×A}{ks:List<|List Key×V},DV K ρ H kvs ks->(ks.map λkv=>L2.th P w kv.1)=kvs.map λkv=>hI kv.1
 | [],[],_=>rfl
 | p::r,q::r',⟨⟨h,_⟩,t⟩=>by rw[bC,bC,DV.th P w t,h,O3]
 | [],_::_,h=>h.elim
 | _::_,[],h=>h.elim
end
section
variable {X:Cx}
abbrev zK (x:A)(S:iC):R A:=match x with
 | .ref n=>opt (jE S n) λkvs=>if kvs≠[]/\(kvs.map λd=>hI d.1).Nodup then .ok (.ref S.length) (S++[.dct kvs])else .no
 | _=>.no
def KA(hc:X.calm=true):jc X (.type "dict") (rN X<|f1 zK):=jc.imp (zM hc) λvs H Q h0=>by
 kcf_m;clear h0
 cases hv with
 | ref hp=>
  rename_i p n;obtain⟨kvs,hn,h⟩:=iF h;obtain⟨ks,e,d⟩:=R.at n p _ hp<|jx hn;by_cases c:kvs≠[]/\(kvs.map λg=>hI g.1).Nodup
  ·rw[aR c]at h;refine⟨p,ks,rfl,.inl e,λz=>?_,by rw[DV.th X.prog X.w d];exact c.2,λl f=>?_⟩
   ·subst z
    cases kvs with
    | nil=>exact c.1 rfl
    | cons _ _=>exact d.elim
   ·obtain⟨ex,j,f⟩:=R.Q4 (xs:=kvs) (vs:=ks) f d;exact h _ _ _ ex j<|.ref f
  ·rw[aU c]at h;exact h.elim
 | _=>exact h.elim
end
end Am
namespace K63
open PySem L2 Am
abbrev top (i:Nat):aG:=PySem.Challenge.pw_undercells_k63_whole_longest_picks.main.body.getD i<|.Pass ⟨0,0,0,0⟩
meta abbrev qk:aG:=top 4
meta abbrev qo:ar:=["thing"]
meta abbrev qD:ar:=["thing"]
abbrev qJ:Sm:=
 jV (vq (iT (f2 D0)<|iy (iu 0)<|iy (eC<|.ty "int") iJ)<|Mj<|iT (f2 D0)<|iy (iu 0)<|iy (eC<|.ty "bool") iJ)
abbrev mK:ae->iC->R A:=kZ qo qJ
meta abbrev pP:aG:=top 8
meta abbrev oZ:ar:=["thing"]
meta abbrev pT:ar:=["thing"]
abbrev pD:Sm:=
 jV (vq (eFn mK<|iy (iu 0) iJ)<|O8 xQ xQ (eC<|.int 1) (iu 0)<|eC<|.int 1000000000)
abbrev kr:ae->iC->R A:=kZ oZ pD
meta abbrev n_:aG:=top 9
meta abbrev oG:ar:=["thing"]
meta abbrev oq:ar:=["thing"]
abbrev ou:Sm:=
 jV (vq (iT (f2 D0)<|iy (iu 0)<|iy (eC<|.ty "list") iJ)<|iT (f1 Ed)<|iy (jA [none] (jX<|iu 0) (i_ 0) jF<|eFn kr<|iy (iu 0) iJ) iJ)
abbrev kG:ae->iC->R A:=kZ oG ou
meta abbrev mF:aG:=top 10
meta abbrev mT:ar:=["thing"]
meta abbrev mC:ar:=["thing"]
abbrev mq:Sm:=
 jV (vq (eFn kG<|iy (iu 0) iJ)<|vq (iL Nh (iT (f1 kP)<|iy (iu 0) iJ)<|eC<|.int 0)<|iL (uf false) (iu 0)<|iT (f1 uT)<|iy (iu 0) iJ)
abbrev jt:ae->iC->R A:=kZ mT mq
meta abbrev n8:aG:=top 11
meta abbrev oz:ar:=["row", "above"]
meta abbrev oH:ar:=["row", "above"]
abbrev nW:Sm:=
 jV (vq (iL xQ (iT (f1 kP)<|iy (iu 0) iJ)<|iT (f1 kP)<|iy (iu 1) iJ)<|iT (f1 Ed)<|iy (jA [none,none] (v5 (iu 1)<|iu 0) (zH 2<|s_ (i_ 0)<|s_ (i_ 1) B3) jF<|iL Ei (iu 0)<|iu 1) iJ)
abbrev jI:ae->iC->R A:=kZ oz nW
meta abbrev qB:aG:=top 12
meta abbrev qt:ar:=["thing"]
meta abbrev qv:ar:=["thing"]
abbrev qG:Sm:=
 iZ (vn (LC (ze<|vt<|iT (f2 D0)<|iy (iu 0)<|iy (eC<|.ty "list") iJ)<|ze<|vt<|iT (f1 Ed)<|iy (jA [none] (jX<|iu 0) (i_ 0) jF<|eFn jt<|iy (iu 0) iJ) iJ)
 (jV<|eC<|.bl false)
 nM)
 (jV<|iT (f1 Ed)<|iy (jA [none,some 0] (uO (eC<|.int 1)<|iT (f1 kP)<|iy (iu 0) iJ) (i_ 0) jF<|eFn jI<|iy (iL oV (iu 1)<|iu 0)<|iy (iL oV (iu 1)<|iL aSub (iu 0)<|eC<|.int 1) iJ) iJ)
abbrev kY:ae->iC->R A:=kZ qt qG
meta abbrev lO:aG:=top 13
meta abbrev lT:ar:=["row", "letter", "place"]
meta abbrev lH:ar:=["row", "letter"]
abbrev kJ:Te:=
 vB (p_<|iL Ei (iu 2)<|iT (f1 kP)<|iy (iu 0) iJ) (p_<|iL xQ (iL oV (iu 0)<|iu 2)<|iu 1)
abbrev kK:Sm:=
 zJ 2 Ks (eC<|.int 1)
abbrev lG:Sm:=
 iZ (jf (eC<|.int 0)<|i_ 2)
 (iZ (j5 kJ
 kK 1000000)
 (jV<|iu 2))
abbrev jO:ae->iC->R A:=kZ lT lG
meta abbrev lF:aG:=top 14
meta abbrev lU:ar:=["rows", "letter", "at", "place"]
meta abbrev lR:ar:=["rows", "letter"]
abbrev kF:Te:=
 p_ (iL Ei (iu 2)<|iT (f1 kP)<|iy (iu 0) iJ)
abbrev kM:Sm:=
 iZ (jf (eFn jO<|iy (iL oV (iu 0)<|iu 2)<|iy (iu 1) iJ)<|i_ 3)
 (iZ (vn (p_<|iL (uf false) (iu 3)<|iT (f1 kP)<|iy (iL oV (iu 0)<|iu 2) iJ)
 (iZ (qe<|IX lg (iL oV (iu 0)<|iu 2)<|iy (iu 1) iJ)
 (jV<|iu 2))
 nM)
 (iZ (jf (qc<|iy (iu 1)<|iy (iL oV (iL oV (iu 0)<|iu 2)<|iu 3) iJ)<|zH 2<|s_ (Oq (iL oV (iu 0)<|iu 2)<|iu 3)<|s_ (i_ 1) B3)
 (zJ 2 Ks<|eC<|.int 1)))
abbrev lD:Sm:=
 iZ (jf (eC<|.int 0)<|i_ 2)
 (iZ (j5 kF
 kM 1000000)
 (iZ (qe<|IX lg (iu 0)<|iy (qX<|iy (iu 1) iJ) iJ)
 (jV<|iu 2)))
abbrev jP:ae->iC->R A:=kZ lU lD
meta abbrev uZ:aG:=top 15
meta abbrev uz:ar:=["table"]
meta abbrev u_:ar:=["table"]
abbrev u9:Sm:=
 jV (jA [none] (jX<|iu 0) (i_ 0) jF<|iT (f1 pM)<|iy (iu 0) iJ)
abbrev oY:ae->iC->R A:=kZ uz u9
meta abbrev um:aG:=top 16
meta abbrev uL:ar:=["row", "first", "second", "at", "letter", "new"]
meta abbrev ur:ar:=["row"]
abbrev uo:Ic:=
 DQ (iu 0)
abbrev uR:Sm:=
 iZ (jf (eFn jP<|iy (iu 1)<|iy (iu 4) iJ)<|i_ 5)
 (iZ (vn (p_<|iL (uf false) (iu 5)<|iT (f1 kP)<|iy (iu 2) iJ)
 (qe<|IX lg (iu 2)<|iy (qX iJ) iJ)
 nM)
 (qe<|IX lg (iL oV (iu 2)<|iu 5)<|iy (iL ow (iu 3)<|eC<|.int 1) iJ))
abbrev uh:Sm:=
 iZ (jf (qX iJ)<|i_ 1)
 (iZ (jf (qX iJ)<|i_ 2)
 (iZ (mW uo (zH 2<|s_ (i_ 3)<|s_ (i_ 4) B3)
 uR)
 (jV<|qc<|iy (iu 1)<|iy (iu 2) iJ)))
abbrev pN:ae->iC->R A:=kZ uL uh
meta abbrev wQ:aG:=top 17
meta abbrev rO:ar:=["table"]
meta abbrev tZ:ar:=["table"]
abbrev qZ:Sm:=
 jV (jA [none] (jX<|iu 0) (i_ 0) jF<|iT (f1 kP)<|iy (iu 0) iJ)
abbrev jY:ae->iC->R A:=kZ rO qZ
meta abbrev j7:aG:=top 18
meta abbrev j9:ar:=["first", "second", "numbers"]
meta abbrev j8:ar:=["first", "second"]
abbrev j6:Sm:=
 iZ (vn (LC (ze<|vt<|eFn kY<|iy (iu 0) iJ)<|LC (ze<|vt<|eFn kY<|iy (iu 1) iJ)<|p_<|iL (uf true) (eFn jY<|iy (iu 0) iJ)<|eFn jY<|iy (iu 1) iJ)
 (jV<|eC<|.bl false)
 nM)
 (iZ (jf (iT (f1 uT)<|iy (xj [none,none] (jX<|iu 1) (i_ 0) jF (jX<|iu 0) (i_ 1) jF<|iu 1) iJ)<|i_ 2)
 (jV<|vq (iL xQ (iT (f1 kP)<|iy (iu 2) iJ)<|eC<|.int 40)<|iL (uf false) (iu 2)<|iT (f1 pM)<|iy (iT (f2 wA)<|iy (eC<|.int 1)<|iy (iL ow (iT (f1 kP)<|iy (iu 2) iJ)<|eC<|.int 1) iJ) iJ))
abbrev jm:ae->iC->R A:=kZ j9 j6
meta abbrev mD:aG:=top 19
meta abbrev mj:ar:=["row", "letter", "place"]
meta abbrev mJ:ar:=["row", "letter"]
abbrev nP:Te:=
 p_ (iL P4 (iL oV (iu 0)<|iu 2)<|iu 1)
abbrev nL:Sm:=
 zJ 2 aSub (eC<|.int 1)
abbrev mS:Sm:=
 iZ (jf (iL aSub (iT (f1 kP)<|iy (iu 0) iJ)<|eC<|.int 1)<|i_ 2)
 (iZ (j5 nP
 nL 1000000)
 (jV<|iu 2))
abbrev jU:ae->iC->R A:=kZ mj mS
meta abbrev qp:aG:=top 20
meta abbrev qE:ar:=["rows", "at", "letter", "up", "place"]
meta abbrev qi:ar:=["rows", "at"]
abbrev rF:Ic:=
 yl (iL aSub (iu 1)<|eC<|.int 1) (Ln Dg<|eC<|.int 1) (Ln Dg<|eC<|.int 1)
abbrev rz:Sm:=
 iZ (jf (eFn jU<|iy (iL oV (iu 0)<|iu 3)<|iy (iu 2) iJ)<|i_ 4)
 (jf (qc<|iy (iu 2)<|iy (iL oV (iL oV (iu 0)<|iu 3)<|iu 4) iJ)<|zH 2<|s_ (Oq (iL oV (iu 0)<|iu 3)<|iu 4)<|s_ (i_ 2) B3)
abbrev qw:Sm:=
 iZ (jf (Nt Ni<|iL oV (iu 0)<|iu 1)<|i_ 2)
 (iZ (mW rF (i_ 3)
 rz)
 (jV<|iu 2))
abbrev mE:ae->iC->R A:=kZ qE qw
meta abbrev qH:aG:=top 21
meta abbrev qI:ar:=["first", "second", "rows", "row_of", "told", "number"]
meta abbrev qz:ar:=["first", "second"]
abbrev qT:Ic:=
 yl (iT (f1 GG)<|iy (iu 3) iJ) (eC<|.int 0) (Ln Dg<|eC<|.int 1)
abbrev qP:Sm:=
 qe (IX lg (iu 4)<|iy (eFn mE<|iy (iu 2)<|iy (iL D4 (iu 3)<|iu 5) iJ) iJ)
abbrev qK:Sm:=
 iZ (vn (ze<|vt<|eFn jm<|iy (iu 0)<|iy (iu 1) iJ)
 (Si)
 nM)
 (iZ (jf (eFn oY<|iy (iu 0) iJ)<|i_ 2)
 (iZ (jf (FO (.mY []) qd [none,none,none] (DQ<|iu 1) (zH 2<|s_ (i_ 0)<|s_ (i_ 1) B3) jF (jX<|iu 1) (i_ 2) jF (iu 2)<|iu 0)<|i_ 3)
 (iZ (jf (qX iJ)<|i_ 4)
 (iZ (mW qT (i_ 5)
 qP)
 (jV<|Ln Hw<|iu 4)))))
abbrev mH:ae->iC->R A:=kZ qI qK
meta abbrev sH:aG:=top 23
meta abbrev sD:ar:=["_law_script", "_law_at", "_law_cell", "_law_great"]
meta abbrev rT:ar:=["_law_script", "_law_at"]
abbrev sI:Sm:=
 iZ (jf (eC<|.int 0)<|i_ 2)
 (iZ (vn (p_<|iL Ei (iu 1)<|iT (f1 kP)<|iy (iu 0) iJ)
 (jf (iL oV (iu 0)<|iu 1)<|i_ 2)
 nM)
 (iZ (jf (eC<|.int 0)<|i_ 3)
 (iZ (vn (p_<|iL P4 (iu 2)<|iL Dc (eC<|.int 10)<|eC<|.int 18)
 (jf (iu 2)<|i_ 3)
 nM)
 (jV<|qX<|iy (iu 3)<|iy (iL xh (iL ow (iL ow (iu 2)<|iL zT (eC<|.int 7919)<|iu 1)<|eC<|.int 13)<|eC<|.int 2147483647) iJ))))
abbrev nU:ae->iC->R A:=kZ sD sI
meta abbrev pW:aG:=top 24
meta abbrev mZ:ar:=["_law_bag_here", "_law_many", "_law_found"]
meta abbrev pV:ar:=["_law_bag_here", "_law_many"]
abbrev m8:Sm:=
 iZ (vn (p_<|iL Nh (iL oV (iu 0)<|eC<|.int 0)<|eC<|.int 0)
 (iZ (jf (iL xh (iL oV (iu 0)<|eC<|.int 0)<|iu 1)<|i_ 2)
 (iZ (jf (iL B7 (iL oV (iu 0)<|eC<|.int 0)<|iu 1)<|Oq (iu 0)<|eC<|.int 0)
 (jV<|iu 2)))
 nM)
 (iZ (jf (iL xh (iL ow (iL zT (iL oV (iu 0)<|eC<|.int 1)<|eC<|.int 48271)<|eC<|.int 11)<|eC<|.int 2147483647)<|Oq (iu 0)<|eC<|.int 1)
 (jV<|iL xh (iL xh (iL zT (iL B7 (iL oV (iu 0)<|eC<|.int 1)<|eC<|.int 8)<|eC<|.int 69621)<|eC<|.int 2147483629)<|iu 1))
abbrev jo:ae->iC->R A:=kZ mZ m8
meta abbrev nB:aG:=top 25
meta abbrev nh:ar:=["_law_bag_here", "_law_most", "_law_many", "_law_way", "_law_base", "_law_made", "_law_k", "_law_letter"]
meta abbrev nA:ar:=["_law_bag_here", "_law_most"]
abbrev tW:Ic:=
 qg (iu 2)
abbrev oQ:Sm:=
 iZ (jf (iL ow (eC<|.int 1)<|eFn jo<|iy (iu 0)<|iy (iu 4) iJ)<|i_ 7)
 (iZ (vn (vB (p_<|iL (uf false) (iu 3)<|eC<|.int 3)<|p_<|iL (Q6 false) (iu 7)<|iu 5)
 (jf (iL ow (eC<|.int 41)<|iu 6)<|i_ 7)
 nM)
 (qe<|IX lg (iu 5)<|iy (iu 7) iJ))
abbrev nJ:Sm:=
 iZ (jf (eFn jo<|iy (iu 0)<|iy (iL ow (iu 1)<|eC<|.int 1) iJ)<|i_ 2)
 (iZ (jf (eFn jo<|iy (iu 0)<|iy (eC<|.int 4) iJ)<|i_ 3)
 (iZ (jf (iL oV (qX<|iy (eC<|.int 3)<|iy (eC<|.int 6)<|iy (iL Dc (eC<|.int 10)<|eC<|.int 9)<|iy (eC<|.int 40) iJ)<|iu 3)<|i_ 4)
 (iZ (jf (qX iJ)<|i_ 5)
 (iZ (mW tW (i_ 6)
 oQ)
 (jV<|iu 5)))))
abbrev kh:ae->iC->R A:=kZ nh nJ
meta abbrev nI:aG:=top 26
meta abbrev nu:ar:=["_law_letters_here", "_law_down", "_law_best", "_law_k", "_law_here", "_law_j", "_law_good"]
meta abbrev nH:ar:=["_law_letters_here", "_law_down"]
abbrev lK:Ic:=
 qg (iu 3)
abbrev lN:Sm:=
 iZ (jf (iL xQ (iL oV (iu 0)<|iu 5)<|iL oV (iu 0)<|iu 3)<|i_ 6)
 (iZ (vn (vt<|iu 1)
 (jf (iL Nh (iL oV (iu 0)<|iu 5)<|iL oV (iu 0)<|iu 3)<|i_ 6)
 nM)
 (vn (vt<|iu 6)
 (jf (iT (f2 A3)<|iy (iu 4)<|iy (iL ow (iL oV (iu 2)<|iu 5)<|eC<|.int 1) iJ)<|i_ 4)
 nM))
abbrev oK:Ic:=
 qg (iT (f1 kP)<|iy (iu 0) iJ)
abbrev oR:Sm:=
 iZ (jf (eC<|.int 1)<|i_ 4)
 (iZ (mW lK (i_ 5)
 lN)
 (qe<|IX lg (iu 2)<|iy (iu 4) iJ))
abbrev nj:Sm:=
 iZ (jf (qX iJ)<|i_ 2)
 (iZ (mW oK (i_ 3)
 oR)
 (jV<|iT (f1 A4)<|iy (iL ow (qX<|iy (eC<|.int 0) iJ)<|iu 2) iJ))
abbrev jQ:ae->iC->R A:=kZ nu nj
meta abbrev r6:aG:=top 27
meta abbrev sG:ar:=["_law_letters_here", "_law_held", "_law_letter", "_law_more", "_law_one", "_law_other", "_law_many"]
meta abbrev sj:ar:=["_law_letters_here"]
abbrev tD:Ic:=
 Jo (iu 1)
abbrev pq:Sm:=
 iZ (jf (iL ow (iL wF (iu 1)<|qc<|iy (iu 4)<|iy (iu 5) iJ)<|eC<|.int 1)<|i_ 6)
 (iZ (vn (vB (p_<|iL xQ (iu 4)<|iu 2)<|p_<|iL Ei (Dz z8 (iu 3)<|iy (qc<|iy (iu 2)<|iy (iu 5) iJ)<|iy (eC<|.int 0) iJ)<|iu 6)
 (jf (iu 6)<|Ar (iu 3)<|qc<|iy (iu 2)<|iy (iu 5) iJ)
 nM)
 (vn (vB (p_<|iL xQ (iu 5)<|iu 2)<|p_<|iL Ei (Dz z8 (iu 3)<|iy (qc<|iy (iu 4)<|iy (iu 2) iJ)<|iy (eC<|.int 0) iJ)<|iu 6)
 (jf (iu 6)<|Ar (iu 3)<|qc<|iy (iu 4)<|iy (iu 2) iJ)
 nM))
abbrev sY:Ic:=
 jX (iu 0)
abbrev tB:Sm:=
 iZ (jf (iT (f1 zK)<|iy (iu 1) iJ)<|i_ 3)
 (iZ (mW tD (zH 2<|s_ (i_ 4)<|s_ (i_ 5) B3)
 pq)
 (jf (iu 3)<|i_ 1))
abbrev su:Sm:=
 iZ (jf (BU (qc<|iy (eC<|.int 0)<|iy (eC<|.int 0) iJ)<|eC<|.int 0)<|i_ 1)
 (iZ (mW sY (i_ 2)
 tB)
 (jV<|iT (f1 A4)<|iy (jA [none,some 1] (Jo<|iu 1) (i_ 0) jF<|iL wF (iu 1)<|iu 0) iJ))
abbrev nK:ae->iC->R A:=kZ sG su
meta abbrev sR:aG:=top 28
meta abbrev sX:ar:=["_law_second", "_law_many", "_law_lengths"]
meta abbrev rZ:ar:=["_law_second", "_law_many"]
abbrev sA:Sm:=
 iZ (jf (jA [none,some 1] (jX<|iu 0) (i_ 0) jF<|iT (f1 kP)<|iy (jA [none,some 1] (jX<|iu 0) (i_ 0) (p_<|iL xQ (iu 0)<|iu 1)<|iu 0) iJ)<|i_ 2)
 (jV<|jA [none] (jX<|iu 2) (i_ 0) (p_<|iL Nh (iu 0)<|eC<|.int 0)<|iu 0)
abbrev nN:ae->iC->R A:=kZ sX sA
meta abbrev j3:aG:=top 29
meta abbrev j4:ar:=["_law_letters_here", "_law_lengths"]
meta abbrev kc:ar:=["_law_letters_here", "_law_lengths"]
abbrev j_:Sm:=
 iZ (vn (LC (p_<|iL (uf true) (iT (f1 Dt)<|iy (Qi (iu 1) x_<|zo<|eC<|.int 1) iJ)<|eFn jQ<|iy (iu 0)<|iy (eC<|.bl false) iJ)<|p_<|iL (uf true) (iT (f1 kP)<|iy (iu 1) iJ)<|eFn jQ<|iy (iu 0)<|iy (eC<|.bl true) iJ)
 (jV<|eC<|.bl false)
 nM)
 (jV<|iL (uf false) (iT (f1 Dt)<|iy (Qi (iu 1) x_<|zo<|eC<|.int 2) iJ)<|eFn nK<|iy (iu 0) iJ)
abbrev jk:ae->iC->R A:=kZ j4 j_
meta abbrev G2:aG:=top 30
meta abbrev HD:ar:=["_law_script", "_law_k", "_law_letters_here", "_law_first", "_law_second", "_law_many"]
meta abbrev Lm:ar:=["_law_script"]
abbrev AK:Ic:=
 qg (iL ow (iT (f1 kP)<|iy (iu 2) iJ)<|eC<|.int 1)
abbrev CW:Sm:=
 vn (ze<|vt<|eFn jk<|iy (Qi (iu 2) x_<|zo<|iu 5)<|iy (eFn nN<|iy (iu 4)<|iy (iu 5) iJ) iJ)
 (jV<|eC<|.bl false)
 nM
abbrev AZ:Ic:=
 qg (iT (f2 A3)<|iy (eC<|.int 2)<|iy (iT (f2 EZ)<|iy (iT (f1 kP)<|iy (iu 0) iJ)<|iy (eC<|.int 5) iJ) iJ)
abbrev A1:Sm:=
 iZ (jf (eFn kh<|iy (eFn nU<|iy (iu 0)<|iy (iu 1) iJ)<|iy (eC<|.int 9) iJ)<|i_ 2)
 (iZ (jf (eFn pN<|iy (iT (f1 pM)<|iy (iu 2) iJ) iJ)<|zH 2<|s_ (i_ 3)<|s_ (i_ 4) B3)
 (iZ (vn (LC (p_<|iL (uf true) (eFn jY<|iy (iu 3) iJ)<|eFn jY<|iy (iu 4) iJ)<|p_<|iL (uf true) (eFn mH<|iy (iu 3)<|iy (iu 4) iJ)<|iu 2)
 (jV<|eC<|.bl false)
 nM)
 (mW AK (i_ 5)
 CW)))
abbrev Gf:Sm:=
 iZ (mW AZ (i_ 1)
 A1)
 (jV<|eC<|.bl true)
abbrev vG:ae->iC->R A:=kZ HD Gf
section
variable {P:ah}{w:af}{K:aA}{mg:Str->bi}{base:au}{f:aq}{fd:FuncData}
def yy:FnScope qo qD (iO qk):=u0 rfl rfl rfl ∅
def yH(F:Fun K "is_whole" "is_whole" qk f fd)(j:mg "isinstance" = none)(J:mg "bool" = none)(L:mg "int" = none):FnOk P w K mg base qa 1 f fd qD (qO K 1 mK):=vd (m:=qJ) F yy λg B d s H E hr=>
 iH (ja<|qj (iN CP j k7<|iA (ir 0)<|iA (Cp L NK) iG)<|sE<|Ms<|iN CP j k7<|iA (ir 0)<|iA (Cp J JO) iG)
def xH:FnScope oZ pT (iO pP):=u0 rfl rfl rfl ∅
def xB(F:Fun K "is_letter" "is_letter" pP f fd)(j:∃t,mg "GREATEST_LETTER" = some (.int 1000000000 t))(J:sS P w K mg base 1 "is_whole" qD mK):FnOk P w K mg base qa 2 f fd pT (qO K 1 kr):=vd (m:=pD) F xH λg B d s H E hr=>
 iH (ja<|qj (D7 J hr<|ir 0)<|sE<|Py wO wO iI (ir 0)<|yv j.choose_spec)
def vj:FnScope oG oq (iO n_):=u0 rfl rfl rfl ∅
def vE(F:Fun K "is_letters" "is_letters" n_ f fd)(j:mg "all" = none)(J:mg "isinstance" = none)(L:mg "list" = none)(M:sS P w K mg base 2 "is_letter" pT kr):FnOk P w K mg base qa 3 f fd oq (qO K 1 kG):=vd (m:=ou) F vj λg B d s H E hr=>
 iH (ja<|qj (iN CP J k7<|iA (ir 0)<|iA (Cp L qQ) iG)<|sE<|iN (BS rfl) j wz<|iA (lY (N:=["part"]) (cap:=[none]) rfl (oO [] rfl ∅ ∅ ∅ ∅ ∅ (nofun) trivial) (mh<|ir 0) (λ_ _ _ _=>iS (i:=0) (show(["part"]:ar).Nodup by decide +kernel) rfl (Or.inl rfl)<|.inr rfl) (λ_ _ _ _=>ko) λ_ _ _ _=>D7 M hr<|ir 0) iG)
def tV:FnScope mT mC (iO mF):=u0 rfl rfl rfl ∅
def tP(F:Fun K "is_table_row" "is_table_row" mF f fd)(j:mg "sorted" = none)(J:mg "len" = none)(L:sS P w K mg base 3 "is_letters" oq kG):FnOk P w K mg base qa 4 f fd mC (qO K 1 jt):=vd (m:=mq) F tV λg B d s H E hr=>
 iH (ja<|qj (D7 L hr<|ir 0)<|qj (nX (JJ hr.units) (iN kR J jL<|iA (ir 0) iG) iI)<|sE<|nX (DM hr.units) (ir 0)<|iN BH j vM<|iA (ir 0) iG)
def vF:FnScope oz oH (iO n8):=u0 rfl rfl rfl ∅
def vD(F:Fun K "fits_under" "fits_under" n8 f fd)(J:mg "all" = none)(L:mg "zip" = none)(j:mg "len" = none):FnOk P w K mg base qa 1 f fd oH (qO K 2 jI):=vd (m:=nW) F vF λg B d s H E hr=>
 iH (ja<|qj (nX wO (iN kR j jL<|iA (ir 0) iG)<|iN kR j jL<|iA (ir 1) iG)<|sE<|iN (BS rfl) J wz<|iA (lY (N:=["high", "low"]) (cap:=[none,none]) rfl (oO [] rfl ∅ ∅ ∅ ∅ ∅ (nofun) trivial) (MI L (ir 1)<|ir 0) (λ_ _ _ _=>qF rfl<|jy (iS (i:=0) (show(["high", "low"]:ar).Nodup by decide +kernel) rfl (Or.inl rfl)<|.inr rfl)<|jy (iS (i:=1) (show(["high", "low"]:ar).Nodup by decide +kernel) rfl (Or.inl rfl)<|.inr rfl) oA) (λ_ _ _ _=>ko) λ_ _ _ _=>nX (D8 hr.units) (ir 0)<|ir 1) iG)
def yX:FnScope qt qv (iO qB):=u0 rfl rfl rfl ∅
def yE(F:Fun K "is_table" "is_table" qB f fd)(j:mg "all" = none)(J:mg "isinstance" = none)(L:mg "list" = none)(M:mg "range" = none)(U:mg "len" = none)(Z:sS P w K mg base 4 "is_table_row" mC jt)(Uc:sS P w K mg base 1 "fits_under" oH jI):FnOk P w K mg base qa 5 f fd qv (qO K 1 kY):=vd (m:=qG) F yX λg B d s H E hr=>
 iE (lX (AW.at<|yf (rX<|pS<|iN CP J k7<|iA (ir 0)<|iA (Cp L qQ) iG)<|xD<|rX<|pS<|iN (BS rfl) j wz<|iA (lY (N:=["row"]) (cap:=[none]) rfl (oO [] rfl ∅ ∅ ∅ ∅ ∅ (nofun) trivial) (mh<|ir 0) (λ_ _ _ _=>iS (i:=0) (show(["row"]:ar).Nodup by decide +kernel) rfl (Or.inl rfl)<|.inr rfl) (λ_ _ _ _=>ko) λ_ _ _ _=>D7 Z hr<|ir 0) iG)
 (iH<|ja tF)
 jG)
 (iH<|ja<|iN (BS rfl) j wz<|iA (lY (N:=["at", "thing"]) (cap:=[none,some 0]) rfl (oO ["thing"] rfl ∅ ∅ ∅ ∅ ∅ (eL.mpr ⟨by first|exact Or.inl rfl|exact Or.inr rfl,(nofun)⟩) ⟨rfl,by decide +kernel,trivial⟩) (DE M iI<|iN kR U jL<|iA (ir 0) iG) (λ_ _ _ _=>iS (i:=0) (show(["at", "thing"]:ar).Nodup by decide +kernel) rfl (Or.inl rfl)<|.inr rfl) (λ_ _ _ _=>ko) λ_ _ _ _=>zB Uc hr (jD (ir 1)<|ir 0)<|jD (ir 1)<|je Hs (ir 0) iI) iG)
def kW:FnScope lT lH (iO lO):=u0 rfl rfl rfl ∅
def r_(F:Fun K "first_greater" "first_greater" lO f fd)(j:mg "len" = none):FnOk P w K mg base qa 1 f fd lH (qO K 2 jO):=vd (m:=lG) F kW λg B d s H E hr=>
 iE (i7 (i:=2) kW.nd iI)
 (iE (ux 1000000 b7 (AW.at<|xN (jw (D8 hr.units) (ir 2)<|iN kR j jL<|iA (ir 0) iG)<|t_<|jw wO (jD (ir 0)<|ir 2)<|ir 1)
 (iH<|z6 (i:=2) kW.nd iI AD))
 (iH<|ja<|ir 2))
def jH:FnScope lU lR (iO lF):=u0 rfl rfl rfl ∅
def sJ(F:Fun K "put_into_rows" "put_into_rows" lF f fd)(j:mg "len" = none)(J:sS P w K mg base 1 "first_greater" lH jO):FnOk P w K mg base qa 2 f fd lR (qO K 2 jP):=vd (m:=lD) F jH λg B d s H E hr=>
 iE (i7 (i:=2) jH.nd iI)
 (iE (ux 1000000 b7 (jw (D8 hr.units) (ir 2)<|iN kR j jL<|iA (ir 0) iG)
 (iE (i7 (i:=3) jH.nd<|zB J hr (jD (ir 0)<|ir 2)<|ir 1)
 (iE (lX (jw (DM hr.units) (ir 3)<|iN kR j jL<|iA (jD (ir 0)<|ir 2) iG)
 (iE (oh<|uD cB cC mw (jD (ir 0)<|ir 2)<|iA (ir 1) iG)
 (iH<|ja<|ir 2))
 jG)
 (iE (qA (oJ<|iA (ir 1)<|iA (jD (jD (ir 0)<|ir 2)<|ir 3) iG)<|qF rfl<|jy (wG (jD (ir 0)<|ir 2)<|ir 3)<|jy (iS (i:=1) jH.nd) oA)
 (iH<|z6 (i:=2) jH.nd iI AD)))))
 (iE (oh<|uD cB cC mw (ir 0)<|iA (ny<|iA (ir 1) iG) iG)
 (iH<|ja<|ir 2)))
def C_:FnScope uz u_ (iO uZ):=u0 rfl rfl rfl ∅
def DW(F:Fun K "copied" "copied" uZ f fd)(j:mg "list" = none):FnOk P w K mg base qa 1 f fd u_ (qO K 1 oY):=vd (m:=u9) F C_ λg B d s H E hr=>
 iH (ja<|lY (N:=["row"]) (cap:=[none]) rfl (oO [] rfl ∅ ∅ ∅ ∅ ∅ (nofun) trivial) (mh<|ir 0) (λ_ _ _ _=>iS (i:=0) (show(["row"]:ar).Nodup by decide +kernel) rfl (Or.inl rfl)<|.inr rfl) (λ_ _ _ _=>ko) λ_ _ _ _=>pH (zE rfl) j qQ<|iA (ir 0) iG)
def l9:FnScope uL ur (iO um):=u0 rfl rfl rfl ∅
def DB(F:Fun K "tables" "tables" um f fd)(j:mg "enumerate" = none)(J:mg "len" = none)(L:sS P w K mg base 2 "put_into_rows" lR jP):FnOk P w K mg base qa 3 f fd ur (qO K 1 pN):=vd (m:=uh) F l9 λg B d s H E hr=>
 iE (i7 (i:=1) l9.nd<|ny iG)
 (iE (i7 (i:=2) l9.nd<|ny iG)
 (iE (ni b7 rfl (EH j<|ir 0) (qF rfl<|jy (iS (i:=3) l9.nd)<|jy (iS (i:=4) l9.nd) oA)
 (iE (i7 (i:=5) l9.nd<|zB L hr (ir 1)<|ir 4)
 (iE (lX (jw (DM hr.units) (ir 5)<|iN kR J jL<|iA (ir 2) iG)
 (iH<|oh<|uD cB cC mw (ir 2)<|iA (ny iG) iG)
 jG)
 (iH<|oh<|uD cB cC mw (jD (ir 2)<|ir 5)<|iA (je oS (ir 3) iI) iG))))
 (iH<|ja<|oJ<|iA (ir 1)<|iA (ir 2) iG)))
def IF:FnScope rO tZ (iO wQ):=u0 rfl rfl rfl ∅
def Hi(F:Fun K "shape" "shape" wQ f fd)(j:mg "len" = none):FnOk P w K mg base qa 1 f fd tZ (qO K 1 jY):=vd (m:=qZ) F IF λg B d s H E hr=>
 iH (ja<|lY (N:=["row"]) (cap:=[none]) rfl (oO [] rfl ∅ ∅ ∅ ∅ ∅ (nofun) trivial) (mh<|ir 0) (λ_ _ _ _=>iS (i:=0) (show(["row"]:ar).Nodup by decide +kernel) rfl (Or.inl rfl)<|.inr rfl) (λ_ _ _ _=>ko) λ_ _ _ _=>iN kR j jL<|iA (ir 0) iG)
def ly:FnScope j9 j8 (iO j7):=u0 rfl rfl rfl ∅
def pJ(F:Fun K "is_pair_of_tables" "is_pair_of_tables" j7 f fd)(M:mg "sorted" = none)(U:mg "list" = none)(Z:mg "range" = none)(j:mg "len" = none)(Ug:∃t,mg "MOST_LETTERS" = some (.int 40 t))(J:sS P w K mg base 1 "shape" tZ jY)(L:sS P w K mg base 5 "is_table" qv kY):FnOk P w K mg base qa 6 f fd j8 (qO K 2 jm):=vd (m:=j6) F ly λg B d s H E hr=>
 iE (lX (AW.at<|yf (rX<|pS<|D7 L hr<|ir 0)<|yf (rX<|pS<|D7 L hr<|ir 1)<|xD<|jw (FE hr.units) (D7 J hr<|ir 0)<|D7 J hr<|ir 1)
 (iH<|ja tF)
 jG)
 (iE (i7 (i:=2) ly.nd<|iN BH M vM<|iA (Ey (N:=["row", "number"]) (cap:=[none,none]) rfl (oO [] rfl ∅ ∅ ∅ ∅ ∅ (nofun) trivial) (mh<|ir 1) (λ_ _ _ _=>iS (i:=0) (show(["row", "number"]:ar).Nodup by decide +kernel) rfl (Or.inl rfl)<|.inr rfl) (λ_ _ _ _=>ko) (λ_ _ _ _=>mh<|ir 0) (λ_ _ _ _=>iS (i:=1) (show(["row", "number"]:ar).Nodup by decide +kernel) rfl (Or.inl rfl)<|.inr rfl) (λ_ _ _ _=>ko) λ_ _ _ _=>ir 1) iG)
 (iH<|ja<|qj (nX wO (iN kR j jL<|iA (ir 2) iG)<|yv Ug.choose_spec)<|sE<|nX (DM hr.units) (ir 2)<|pH (zE rfl) U qQ<|iA (pH GS Z E1<|iA iI<|iA (je oS (iN kR j jL<|iA (ir 2) iG) iI) iG) iG))
def lJ:FnScope mj mJ (iO mD):=u0 rfl rfl rfl ∅
def tQ(F:Fun K "last_smaller" "last_smaller" mD f fd)(j:mg "len" = none):FnOk P w K mg base qa 1 f fd mJ (qO K 2 jU):=vd (m:=mS) F lJ λg B d s H E hr=>
 iE (i7 (i:=2) lJ.nd<|je Hs (iN kR j jL<|iA (ir 0) iG) iI)
 (iE (ux 1000000 b7 (jw Pw (jD (ir 0)<|ir 2)<|ir 1)
 (iH<|z6 (i:=2) lJ.nd iI JN))
 (iH<|ja<|ir 2))
def lC:FnScope qE qi (iO qp):=u0 rfl rfl rfl ∅
def zc(F:Fun K "take_out" "take_out" qp f fd)(j:mg "range" = none)(J:sS P w K mg base 1 "last_smaller" mJ jU):FnOk P w K mg base qa 2 f fd qi (qO K 2 mE):=vd (m:=qw) F lC λg B d s H E hr=>
 iE (i7 (i:=2) lC.nd<|M9 PySem.F.slot_list_pop PySem.F.type_list_pop OP<|jD (ir 0)<|ir 1)
 (iE (ni b7 rfl (vJ j (je Hs (ir 1) iI) (Ah iI)<|Ah iI) (iS (i:=3) lC.nd)
 (iE (i7 (i:=4) lC.nd<|zB J hr (jD (ir 0)<|ir 3)<|ir 2)
 (iH<|qA (oJ<|iA (ir 2)<|iA (jD (jD (ir 0)<|ir 3)<|ir 4) iG)<|qF rfl<|jy (wG (jD (ir 0)<|ir 3)<|ir 4)<|jy (iS (i:=2) lC.nd) oA)))
 (iH<|ja<|ir 2))
def lu:FnScope qI qz (iO qH):=u0 rfl rfl rfl ∅
def xS(F:Fun K "row_back" "row_back" qH f fd)(j:mg "enumerate" = none)(J:mg "range" = none)(L:mg "len" = none)(M:sS P w K mg base 6 "is_pair_of_tables" j8 jm)(U:sS P w K mg base 1 "copied" u_ oY)(Z:sS P w K mg base 2 "take_out" qi mE):FnOk P w K mg base qa 7 f fd qz (qO K 2 mH):=vd (m:=qK) F lu λg B d s H E hr=>
 iE (lX (rX<|pS<|zB M hr (ir 0)<|ir 1)
 (iH<|PN)
 jG)
 (iE (i7 (i:=2) lu.nd<|D7 U hr<|ir 0)
 (iE (C9 (λ_=>Ph) hr.units (i:=3) (N:=["at", "row", "number"]) (cap:=[none,none,none]) lu.nd rfl (oO [] rfl ∅ ∅ ∅ ∅ ∅ (nofun) trivial) (EH j<|ir 1) (λ_ _ _ _=>qF rfl<|jy (iS (i:=0) (show(["at", "row", "number"]:ar).Nodup by decide +kernel) rfl (Or.inl rfl)<|.inr rfl)<|jy (iS (i:=1) (show(["at", "row", "number"]:ar).Nodup by decide +kernel) rfl (Or.inl rfl)<|.inr rfl) oA) (λ_ _ _ _=>ko) (λ_ _ _ _=>mh<|ir 1) (λ_ _ _ _=>iS (i:=2) (show(["at", "row", "number"]:ar).Nodup by decide +kernel) rfl (Or.inl rfl)<|.inr rfl) (λ_ _ _ _=>ko) (λ_ _ _ _=>ir 2) λ_ _ _ _=>ir 0)
 (iE (i7 (i:=4) lu.nd<|ny iG)
 (iE (ni b7 rfl (vJ J (iN NS L jL<|iA (ir 3) iG) iI<|Ah iI) (iS (i:=5) lu.nd)
 (iH<|oh<|uD cB cC mw (ir 4)<|iA (zB Z hr (ir 2)<|NV hr.units (ir 3)<|ir 5) iG))
 (iH<|ja<|NX<|ir 4)))))
def mQ:FnScope sD rT (iO sH):=u0 rfl rfl rfl ∅
def Ai(F:Fun K "_law_bag" "_law_bag" sH f fd)(j:mg "len" = none):FnOk P w K mg base qa 1 f fd rT (qO K 2 nU):=vd (m:=sI) F mQ λg B d s H E hr=>
 iE (i7 (i:=2) mQ.nd iI)
 (iE (lX (jw (D8 hr.units) (ir 1)<|iN kR j jL<|iA (ir 0) iG)
 (iH<|i7 (i:=2) mQ.nd<|jD (ir 0)<|ir 1)
 jG)
 (iE (i7 (i:=3) mQ.nd iI)
 (iE (lX (jw Pw (ir 2)<|je Lv iI iI)
 (iH<|i7 (i:=3) mQ.nd<|ir 2)
 jG)
 (iH<|ja<|ny<|iA (ir 3)<|iA (je ye (je oS (je oS (ir 2)<|je Hr iI<|ir 1) iI) iI) iG))))
def rG:FnScope mZ pV (iO pW):=u0 rfl rfl rfl ∅
def wJ(F:Fun K "_law_digit" "_law_digit" pW f fd):FnOk P w K mg base qa 1 f fd pV (qO K 2 jo):=vd (m:=m8) F rG λg B d s H E hr=>
 iE (lX (jw (JJ hr.units) (jD (ir 0) iI) iI)
 (iE (i7 (i:=2) rG.nd<|je ye (jD (ir 0) iI)<|ir 1)
 (iE (qA (je EM (jD (ir 0) iI)<|ir 1)<|wG (ir 0) iI)
 (iH<|ja<|ir 2)))
 jG)
 (iE (qA (je ye (je oS (je Hr (jD (ir 0) iI) iI) iI) iI)<|wG (ir 0) iI)
 (iH<|ja<|je ye (je ye (je Hr (je EM (jD (ir 0) iI) iI) iI) iI)<|ir 1))
def jh:FnScope nh nA (iO nB):=u0 rfl rfl rfl ∅
def uF(F:Fun K "_law_letters" "_law_letters" nB f fd)(J:mg "range" = none)(j:sS P w K mg base 1 "_law_digit" pV jo):FnOk P w K mg base qa 2 f fd nA (qO K 2 kh):=vd (m:=nJ) F jh λg B d s H E hr=>
 iE (i7 (i:=2) jh.nd<|zB j hr (ir 0)<|je oS (ir 1) iI)
 (iE (i7 (i:=3) jh.nd<|zB j hr (ir 0) iI)
 (iE (i7 (i:=4) jh.nd<|jD (ny<|iA iI<|iA iI<|iA (je Lv iI iI)<|iA iI iG)<|ir 3)
 (iE (i7 (i:=5) jh.nd<|ny iG)
 (iE (ni b7 rfl (nQ J<|ir 2) (iS (i:=6) jh.nd)
 (iE (i7 (i:=7) jh.nd<|je oS iI<|zB j hr (ir 0)<|ir 4)
 (iE (lX (AW.at<|xN (jw (DM hr.units) (ir 3) iI)<|t_<|jw (RN hr.units) (ir 7)<|ir 5)
 (iH<|i7 (i:=7) jh.nd<|je oS iI<|ir 6)
 jG)
 (iH<|oh<|uD cB cC mw (ir 5)<|iA (ir 7) iG))))
 (iH<|ja<|ir 5)))))
def jj:FnScope nu nH (iO nI):=u0 rfl rfl rfl ∅
def uG(F:Fun K "_law_longest" "_law_longest" nI f fd)(j:mg "range" = none)(L:mg "len" = none)(J:mg "max" = none):FnOk P w K mg base qa 1 f fd nH (qO K 2 jQ):=vd (m:=nj) F jj λg B d s H E hr=>
 iE (i7 (i:=2) jj.nd<|ny iG)
 (iE (ni b7 rfl (nQ j<|iN kR L jL<|iA (ir 0) iG) (iS (i:=3) jj.nd)
 (iE (i7 (i:=4) jj.nd iI)
 (iE (ni b7 rfl (nQ j<|ir 3) (iS (i:=5) jj.nd)
 (iE (i7 (i:=6) jj.nd<|nX wO (jD (ir 0)<|ir 5)<|jD (ir 0)<|ir 3)
 (iE (lX (pS<|ir 1)
 (iH<|i7 (i:=6) jj.nd<|nX (JJ hr.units) (jD (ir 0)<|ir 5)<|jD (ir 0)<|ir 3)
 jG)
 (iH (lX (pS<|ir 6)
 (iH<|i7 (i:=4) jj.nd<|iN (GW rfl) J wN<|iA (ir 4)<|iA (je oS (jD (ir 2)<|ir 5) iI) iG)
 jG)))))
 (iH<|oh<|uD cB cC mw (ir 2)<|iA (ir 4) iG))))
 (iH<|ja<|iN (F9 rfl) J wN<|iA (je oS (ny<|iA iI iG)<|ir 2) iG))
def jS:FnScope sG sj (iO r6):=u0 rfl rfl rfl ∅
def zF(F:Fun K "_law_two" "_law_two" r6 f fd)(j:mg "dict" = none)(J:mg "max" = none):FnOk P w K mg base qa 1 f fd sj (qO K 1 nK):=vd (m:=su) F jS λg B d s H E hr=>
 iE (i7 (i:=1) jS.nd<|Kz hr.units (oJ<|iA iI<|iA iI iG) iI)
 (iE (ni b7 rfl (mh<|ir 0) (iS (i:=2) jS.nd)
 (iE (i7 (i:=3) jS.nd<|pH (KA rfl) j KJ<|iA (ir 1) iG)
 (iE (ni b7 rfl (yI<|ir 1) (qF rfl<|jy (iS (i:=4) jS.nd)<|jy (iS (i:=5) jS.nd) oA)
 (iE (i7 (i:=6) jS.nd<|je oS (F0 hr.units (ir 1)<|oJ<|iA (ir 4)<|iA (ir 5) iG) iI)
 (iE (lX (AW.at<|xN (jw wO (ir 4)<|ir 2)<|t_<|jw (D8 hr.units) (FP fU PySem.F.type_dict_get (LJ hr.units) (ir 3)<|iA (oJ<|iA (ir 2)<|iA (ir 5) iG)<|iA iI iG)<|ir 6)
 (iH<|qA (ir 6)<|Ay hr.units (ir 3)<|oJ<|iA (ir 2)<|iA (ir 5) iG)
 jG)
 (iH (lX (AW.at<|xN (jw wO (ir 5)<|ir 2)<|t_<|jw (D8 hr.units) (FP fU PySem.F.type_dict_get (LJ hr.units) (ir 3)<|iA (oJ<|iA (ir 4)<|iA (ir 2) iG)<|iA iI iG)<|ir 6)
 (iH<|qA (ir 6)<|Ay hr.units (ir 3)<|oJ<|iA (ir 4)<|iA (ir 2) iG)
 jG)))))
 (iH<|i7 (i:=1) jS.nd<|ir 3))))
 (iH<|ja<|iN (F9 rfl) J wN<|iA (lY (N:=["_law_some", "_law_held"]) (cap:=[none,some 1]) rfl (oO ["_law_held"] rfl ∅ ∅ ∅ ∅ ∅ (eL.mpr ⟨by first|exact Or.inl rfl|exact Or.inr rfl,(nofun)⟩) ⟨rfl,by decide +kernel,trivial⟩) (yI<|ir 1) (λ_ _ _ _=>iS (i:=0) (show(["_law_some", "_law_held"]:ar).Nodup by decide +kernel) rfl (Or.inl rfl)<|.inr rfl) (λ_ _ _ _=>ko) λ_ _ _ _=>F0 hr.units (ir 1)<|ir 0) iG))
def uv:FnScope sX rZ (iO sR):=u0 rfl rfl rfl ∅
def Aj(F:Fun K "_law_cut" "_law_cut" sR f fd)(j:mg "len" = none):FnOk P w K mg base qa 1 f fd rZ (qO K 2 nN):=vd (m:=sA) F uv λg B d s H E hr=>
 iE (Kv (i:=2) (N:=["_law_row", "_law_many"]) (cap:=[none,some 1]) uv.nd rfl (oO ["_law_many"] rfl ∅ ∅ ∅ ∅ ∅ (eL.mpr ⟨by first|exact Or.inl rfl|exact Or.inr rfl,(nofun)⟩) ⟨rfl,by decide +kernel,trivial⟩) (mh<|ir 0) (λ_ _ _ _=>iS (i:=0) (show(["_law_row", "_law_many"]:ar).Nodup by decide +kernel) rfl (Or.inl rfl)<|.inr rfl) (λ_ _ _ _=>ko) λ_ _ _ _=>iN kR j jL<|iA (lY (N:=["_law_number", "_law_many"]) (cap:=[none,some 1]) rfl (oO ["_law_many"] rfl ∅ ∅ ∅ ∅ ∅ (eL.mpr ⟨by first|exact Or.inl rfl|exact Or.inr rfl,(nofun)⟩) ⟨rfl,by decide +kernel,trivial⟩) (mh<|ir 0) (λ_ _ _ _=>iS (i:=0) (show(["_law_number", "_law_many"]:ar).Nodup by decide +kernel) rfl (Or.inl rfl)<|.inr rfl) (λ_ _ _ _=>Co<|jw wO (ir 0)<|ir 1) λ_ _ _ _=>ir 0) iG)
 (iH<|ja<|lY (N:=["_law_one"]) (cap:=[none]) rfl (oO [] rfl ∅ ∅ ∅ ∅ ∅ (nofun) trivial) (mh<|ir 2) (λ_ _ _ _=>iS (i:=0) (show(["_law_one"]:ar).Nodup by decide +kernel) rfl (Or.inl rfl)<|.inr rfl) (λ_ _ _ _=>Co<|jw (JJ hr.units) (ir 0) iI) λ_ _ _ _=>ir 0)
def o6:FnScope j4 kc (iO j3):=u0 rfl rfl rfl ∅
def pU(F:Fun K "_law_lengths_right" "_law_lengths_right" j3 f fd)(L:mg "len" = none)(j:mg "sum" = none)(J:sS P w K mg base 1 "_law_longest" nH jQ)(M:sS P w K mg base 1 "_law_two" sj nK):FnOk P w K mg base qa 2 f fd kc (qO K 2 jk):=vd (m:=j_) F o6 λg B d s H E hr=>
 iE (lX (AW.at<|yf (jw (FE hr.units) (iN (Lo rfl) j Hv<|iA (Hu (ir 1) wM<|wH iI) iG)<|zB J hr (ir 0) tF)<|xD<|jw (FE hr.units) (iN kR L jL<|iA (ir 1) iG)<|zB J hr (ir 0) tF)
 (iH<|ja tF)
 jG)
 (iH<|ja<|nX (DM hr.units) (iN (Lo rfl) j Hv<|iA (Hu (ir 1) wM<|wH iI) iG)<|D7 M hr<|ir 0)
def sy:FnScope HD Lm (iO G2):=u0 rfl rfl rfl ∅
set_option smartUnfolding false in
theorem Nu(F:Fun K "law" "law" G2 f fd)(j:mg "range" = none)(M:mg "max" = none)(U:mg "min" = none)(J:mg "len" = none)(Z:mg "list" = none)(Uq:sS P w K mg base 2 "_law_letters" nA kh)(Ur:sS P w K mg base 1 "_law_bag" rT nU)(Us:sS P w K mg base 3 "tables" ur pN)(Ut:sS P w K mg base 7 "row_back" qz mH)(L:sS P w K mg base 1 "shape" tZ jY)(Uu:sS P w K mg base 2 "_law_lengths_right" kc jk)(Uv:sS P w K mg base 1 "_law_cut" rZ nN):FnOk P w K mg base qa 8 f fd Lm (qO K 1 vG):=vd (m:=Gf) F sy λg B d s H E hr=>
 iE (ni b7 rfl (nQ j<|iN (GW rfl) M wN<|iA iI<|iA (iN (NG rfl) U Oc<|iA (iN kR J jL<|iA (ir 0) iG)<|iA iI iG) iG) (iS (i:=1) sy.nd)
 (iE (i7 (i:=2) sy.nd<|zB Uq hr (zB Ur hr (ir 0)<|ir 1) iI)
 (iE (qA (D7 Us hr<|pH (zE rfl) Z qQ<|iA (ir 2) iG)<|qF rfl<|jy (iS (i:=3) sy.nd)<|jy (iS (i:=4) sy.nd) oA)
 (iE (lX (AW.at<|yf (jw (FE hr.units) (D7 L hr<|ir 3)<|D7 L hr<|ir 4)<|xD<|jw (FE hr.units) (zB Ut hr (ir 3)<|ir 4)<|ir 2)
 (iH<|ja tF)
 jG)
 (iH (ni b7 rfl (nQ j<|je oS (iN kR J jL<|iA (ir 2) iG) iI) (iS (i:=5) sy.nd)
 (iH (lX (rX<|pS<|zB Uu hr (Hu (ir 2) wM<|wH<|ir 5)<|zB Uv hr (ir 4)<|ir 5)
 (iH<|ja tF)
 jG))))))))
 (iH<|ja tF)
end
end K63
namespace Bl
open L2
end Bl
namespace Am
open PySem L2 Bl
theorem uC:∀{ns:ag},ns≠[]->∃m,maxOf ns=some m
 | [],h=>absurd rfl h
 | [x],_=>⟨x,rfl⟩
 | x::y::ys,_=>by
  obtain⟨m,e⟩:=uC (ns:=y::ys) (by simp);exact⟨if m>x then m else x,by show(maxOf (y::ys)).map _=_;rw[e];rfl⟩
def ya{n:Nat}{ns:ag}(h:iw S n=some (ns.map .int))(h0:ns≠[]):∃m,A4 (.ref n) S=.ok (.int m) S/\m∈ns/\∀a∈ns,a<=m:=by
 obtain⟨m,e⟩:=uC h0;refine⟨m,?_,uY e⟩;show opt (iw S n) _=_;rw[h,iP,ints_map,iP,e,iP]
end Am
namespace Tb
abbrev fg (r:ag)(x:Int):Nat:=r.findIdx λy=>decide<|x<y
def Bg(r:ag)(x:Int):fg r x<=r.length:=fL
def uU{r:ag}{x:Int}(h:fg r x≠r.length):fg r x<r.length:=Nat.lt_of_le_of_ne (Bg r x) h
abbrev put:List (ag)->Int->List (ag)
 | [],x=>[[x]]
 | r::rs,x=>if fg r x=r.length then(r++[x])::rs else r.set (fg r x) x::put rs (r.getD (fg r x) 0)
abbrev row:List (ag)->Int->Nat
 | [],_=>0
 | r::rs,x=>if fg r x=r.length then 0 else row rs (r.getD (fg r x) 0)+1
def kL{r:ag}{x:Int}(h:fg r x=r.length):put (r::rs) x=(r++[x])::rs:=aR h
def mz{r:ag}{x:Int}(h:fg r x≠r.length):put (r::rs) x=r.set (fg r x) x::put rs (r.getD (fg r x) 0):=aU h
def p8{r:ag}{x:Int}(h:fg r x=r.length):row (r::rs) x=0:=aR h
def sO{r:ag}{x:Int}(h:fg r x≠r.length):row (r::rs) x=row rs (r.getD (fg r x) 0)+1:=aU h
theorem HJ:∀(T:List<|ag) (x:Int),row T x<=T.length
 | [],_=>aP _
 | r::rs,x=>by
  by_cases h:fg r x=r.length
  ·rw[p8 h];exact bN _
  ·rw[sO h,bz];exact dX<|HJ rs _
abbrev bump:am->Nat->am
 | [],_=>[1]
 | n::ns,0=>(n+1)::ns
 | n::ns,i+1=>n::bump ns i
theorem l8:∀(T:List<|ag) (x:Int),(put T x).map List.length=bump (T.map List.length) (row T x)
 | [],_=>rfl
 | r::rs,x=>by
  by_cases h:fg r x=r.length
  ·rw[kL h,p8 h,bC,bC,aY];rfl
  ·rw[mz h,sO h,bC,bC,bG,l8 rs];rfl
theorem xY:∀(ns:am) (i:Nat),(bump ns i).sum=ns.sum+1
 | [],_=>rfl
 | n::ns,0=>by simp[bump];lia
 | n::ns,i+1=>by simp[bump,xY ns i];lia
def pO(T:List<|ag)(j:Nat):(T.map List.length).getD j 0=(T.getD j []).length:=by
 rw[aI,aI,aX]
 cases T[j]?<;>rfl
def JP(T:List<|ag)(x:Int):((put T x).map List.length).sum=(T.map List.length).sum+1:=by
 rw[l8,xY]
abbrev add:List (ag)->Nat->Int->List (ag)
 | [],_,k=>[[k]]
 | q::qs,0,k=>(q++[k])::qs
 | q::qs,i+1,k=>q::add qs i k
theorem sV:∀(Q:List<|ag) (i:Nat) (k:Int),(add Q i k).map List.length=bump (Q.map List.length) i
 | [],_,_=>rfl
 | q::qs,0,k=>by simp[add,bump]
 | q::qs,i+1,k=>by simp[add,bump,sV qs i k]
theorem CG:∀(Q:List<|ag) (k:Int),add Q Q.length k=Q++[[k]]
 | [],_=>rfl
 | q::qs,k=>by show q::add qs qs.length k=_;rw[CG qs k];rfl
theorem GU:∀(Q:List<|ag) (i:Nat) (k:Int),i<Q.length->add Q i k=Q.set i (Q.getD i []++[k])
 | [],_,_,h=>absurd h (cM _)
 | q::qs,0,k,_=>rfl
 | q::qs,i+1,k,h=>by show q::add qs i k=_;rw[GU qs i k<|Nat.lt_of_succ_lt_succ h];rfl
abbrev tabs (xs:ag):Nat->List (ag)×List (ag)
 | 0=>([],[])
 | i+1=>(put (tabs xs i).1<|xs.getD i 0,add (tabs xs i).2 (row (tabs xs i).1<|xs.getD i 0)<|(i:Int)+1)
theorem jC(xs:ag):∀i,(tabs xs i).2.map List.length=(tabs xs i).1.map List.length
 | 0=>rfl
 | i+1=>by
  show(add _ _ _).map List.length=(put _ _).map List.length;rw[sV,l8,jC xs i]
def HS(xs:ag)(i:Nat):(tabs xs i).2.length=(tabs xs i).1.length:=by
 have:=cj List.length<|jC xs i;simpa using this
theorem uA(xs:ag):∀i,((tabs xs i).1.map List.length).sum=i
 | 0=>rfl
 | i+1=>by
  show((put _ _).map List.length).sum=_;rw[JP,uA xs i]
theorem qM:∀{ns:am},(∀n∈ns,0<n)->ns.length<=ns.sum
 | [],_=>aP _
 | n::ns,h=>by
  have h1:=h n<|aM ..;have h2:=qM λm hm=>h m<|aN _ hm;rw[bz,dM];lia
theorem sW:∀(ns:am) (j:Nat),ns.getD j 0<=ns.sum
 | [],j=>by simp
 | n::ns,0=>by simp
 | n::ns,j+1=>by have:=sW ns j;rw[dM];dsimp[List.getD_cons_succ];lia
theorem y9:∀{ns:am}{i:Nat},(∀n∈ns,0<n)->∀n∈bump ns i,0<n
 | [],_,_,n,h=>by simp[bump]at h;lia
 | m::ns,0,hp,n,h=>by
  rcases a_.mp h with z|z
  ·lia
  ·exact hp n<|aN _ z
 | m::ns,i+1,hp,n,h=>by
  rcases a_.mp h with z|z
  ·rw[z];exact hp m (aM ..)
  ·exact y9 (λk d=>hp k<|aN _ d) n z
theorem uH(xs:ag):∀i,∀n∈(tabs xs i).1.map List.length,0<n
 | 0=>λn h=>by cases h
 | i+1=>by
  show ∀n∈(put _ _).map List.length,0<n;rw[l8];exact y9<|uH xs i
def uQ(xs:ag)(i:Nat):(tabs xs i).1.length<=i/\∀j,((tabs xs i).1.getD j []).length<=i:=by
 refine⟨?_,λj=>?_⟩
 ·have:=qM<|uH xs i;rw[uA,aL]at this;exact this
 ·have:=sW ((tabs xs i).1.map List.length) j;rw[pO,uA]at this;exact this
abbrev gs (r:ag)(x:Int):am:=(List.range r.length).filter λk=>decide<|x<r.getD k 0
end Tb
namespace Am
open PySem L2
abbrev Rows (S:iC):am->List (ag)->Prop
 | [],[]=>True
 | r::rs,x::T=>iw S r=some (x.map .int)/\Rows S rs T
 | _,_=>False
theorem Rows.len:∀{rs:am}{T:List<|ag},Rows S rs T->rs.length=T.length
 | [],[],_=>rfl
 | _::_,_::_,h=>cj (·+1) (Rows.len h.2)
 | [],_::_,h=>h.elim
 | _::_,[],h=>h.elim
theorem Rows.get:∀{rs:am}{T:List<|ag}{i:Nat}{r:Nat},Rows S rs T->rs[i]?=some r->i<T.length/\iw S r=some ((T.getD i []).map .int)
 | [],[],_,_,_,e=>by simp at e
 | r::rs,x::T,0,_,h,e=>by simp at e;subst e;exact⟨Nat.zero_lt_succ _,h.1⟩
 | r::rs,x::T,i+1,q,h,e=>by
  obtain⟨h1,h2⟩:=Rows.get (i:=i) (r:=q) h.2 (by simpa using e);exact⟨f6 h1,by simpa using h2⟩
 | [],_::_,_,_,h,_=>h.elim
 | _::_,[],_,_,h,_=>h.elim
theorem Rows.mono:∀{rs:am}{T:List<|ag},Rows S rs T->(∀r∈rs,∀xs,iw S r=some xs->iw S' r=some xs)->Rows S' rs T
 | [],[],_,_=>trivial
 | r::rs,x::T,h,k=>⟨k r (aM ..) _ h.1,Rows.mono h.2 λq d=>k q<|aN _ d⟩
 | [],_::_,h,_=>h.elim
 | _::_,[],h,_=>h.elim
theorem Rows.mk:∀{rs:am}{T:List<|ag},rs.length=T.length->(∀i,i<T.length->iw S (rs.getD i 0)=some ((T.getD i []).map .int))->Rows S rs T
 | [],[],_,_=>trivial
 | r::rs,x::T,hl,h=>⟨h 0<|Nat.zero_lt_succ _,Rows.mk (by simpa using hl) λi hi=>by have:=h (i+1)<|f6 hi;simpa using this⟩
 | [],_::_,h,_=>by simp at h
 | _::_,[],h,_=>by simp at h
theorem Rows.set{S:iC}{ys:ag}:∀{rs:am}{T:List<|ag}{i:Nat}{r:Nat},Rows S rs T->rs.Nodup->rs[i]?=some r->Rows (S.set r<|.lst<|ys.map .int) rs (T.set i ys)
 | [],[],_,_,_,_,e=>by simp at e
 | r::rs,x::T,0,q,h,nd,e=>by
  simp at e;subst e;refine⟨om<|mO h.1,Rows.mono h.2 λq f xs e=>?_⟩;rw[kU<|show r≠q from λz=>(bO.mp nd).1<|by rw[z];exact f];exact e
 | r::rs,x::T,i+1,q,h,nd,e=>by
  have d:rs[i]?=some q:=by simpa using e
  refine⟨?_,Rows.set h.2 (bO.mp nd).2 d⟩;rw[kU<|show q≠r from λz=>(bO.mp nd).1<|by rw[<- z];exact bx d];exact h.1
 | [],_::_,_,_,h,_,_=>h.elim
 | _::_,[],_,_,h,_,_=>h.elim
theorem Rows.app:∀{rs rs':am}{T T':List<|ag},Rows S rs T->Rows S rs' T'->Rows S (rs++rs') (T++T')
 | [],_,[],_,_,h=>h
 | r::rs,_,x::T,_,h,h'=>⟨h.1,Rows.app h.2 h'⟩
 | [],_,_::_,_,h,_=>h.elim
 | _::_,_,[],_,h,_=>h.elim
structure Tab (S:iC)(n:Nat)(rs:am)(T:List (ag)):Prop where
 top:iw S n=some (rs.map .ref)
 rows:Rows S rs T
 nd:(n::rs).Nodup
def Tab.len{n:Nat}{j:am}{T:List<|ag}(h:Tab S n j T):j.length=T.length:=h.rows.len
def Tab.kp{n:Nat}{c:Nat->Prop}(h:Tab S n rs T)(k:Kp c S S')(hc:∀r∈n::rs,¬c r):Tab S' n rs T:=
 ⟨k.lst _ _ (hc n<|aM ..) h.top,h.rows.mono λr hr xs e=>k.lst r xs (hc r<|aN _ hr) e,h.nd⟩
def Tab.xr{n:Nat}(h:Tab S n rs T)(k:mR S S'):Tab S' n rs T:=h.kp k λ_ _ z=>z
def Rows.lt{S:iC}{j:am}(h:Rows S j T):∀r∈j,r<S.length:=λr hr=>by
 obtain⟨i,hi,e⟩:=dF.mp hr;exact mO (h.get<|by rw[aH hi,e]).2
def Tab.lt{S:iC}{n:Nat}(h:Tab S n rs T):∀r∈n::rs,r<S.length:=λr hr=>by
 rcases a_.mp hr with z|z
 ·rw[z];exact mO h.top
 ·exact h.rows.lt r z
def Tab.set{S:iC}{n:Nat}{T:List<|ag}{i r:Nat}{ys:ag}(h:Tab S n rs T)(hi:rs[i]?=some r):Tab (S.set r<|.lst<|ys.map .int) n rs (T.set i ys):=
 ⟨by rw[kU<|show r≠n from λz=>(bO.mp h.nd).1<|by rw[<- z];exact bx hi];exact h.top,h.rows.set (bO.mp h.nd).2 hi,h.nd⟩
def Tab.push{S:iC}{n:Nat}{ys:ag}(h:Tab S n rs T):Tab ((S++[O.lst<|ys.map .int]).set n<|.lst<|(rs++[S.length]).map .ref) n (rs++[S.length]) (T++[ys]):=by
 have hn:n<S.length:=h.lt n<|aM ..;have d:∀r∈rs,n≠r:=λr hr z=>(bO.mp h.nd).1<|z ▸ hr;refine⟨om<|by rw[aY];simp;lia,Rows.app (h.rows.mono λr hr xs e=>?_) ⟨?_,trivial⟩,?_⟩
 ·rw[kU<|d r hr];exact k_ e
 ·rw[kU ()];exact iR
 ·rw[bO,cH];refine⟨λz=>?_,(bO.mp h.nd).2,by simp,λa f b hb z=>?_⟩
  ·rcases bA.mp z with z|z
   ·exact d n z rfl
   ·have:n=S.length:=by simpa using z
    lia
  ·have g:b=S.length:=by simpa using hb
   have:=h.rows.lt a f
   lia
def Tab.nil{n:Nat}(h:iw S n=some []):Tab S n [] []:=⟨h,trivial,by simp⟩
theorem CV{s:Src}{g:Tg}{e:Ex}{T:ae->Prop}(P:Nat->iC->Prop)(it:Nat->A)(f:Nat->A)
  (J:∀i S,i<s.k->P i S->s.get i S=some (it i)) (L:∀S,P s.k S->s.fin S=true)
  (step:∀i τ S,i<s.k->T τ->P i S->∃τ1 S1 S3,g (it i) τ S=.ok τ1 S1/\T τ1/\e τ1 S1=.ok (f i) S3/\P (i+1) S3) :
  ∀k i τ S,k+i=s.k->T τ->P i S->∃S',jN s g jF e k i τ S=.ok ((List.range' i k).map f) S'/\P s.k S'
 | 0,i,τ,S,hk,hT,hP=>by
  have:i=s.k:=()
  subst this;exact⟨S,by unfold jN;rw[aR<|L S hP];rfl,hP⟩
 | k+1,i,τ,S,hk,hT,hP=>by
  obtain⟨τ1,S1,S3,hg,d,m,j⟩:=step i τ S () hT hP;obtain⟨S',h1,h2⟩:=CV P it f J L step k (i+1) τ1 S3 () d j;refine⟨S',?_,h2⟩;unfold jN;rw[J i S () hP,iP,hg,R.i8];show(e τ1 S1).jb _=_;rw[m,R.i8,h1];rfl
def Dq{src:Ic}{S:iC}{n:Nat}{J:am}{T:List<|ag}(h:Tab S n J T)(hs:src τ S=.ok (i9 n (J.map A.ref).length) S)(L:T.length<=16777216) :
  ∃(qs:am) (m:Nat) (S':iC),jA (none::cap) src (i_ 0) jF (iT (f1 pM)<|iy (iu 0) iJ) τ S=.ok (.ref m) S'/\Tab S' m qs T/\mR S S'/\∀r∈m::qs,S.length<=r:=by
 have B:=h.len;rw[aL]at hs;obtain⟨S',h1,h2,F,C⟩:=CV (s:=i9 n J.length) (g:=i_ 0) (e:=iT (f1 pM)<|iy (iu 0) iJ) (T:=λt=>∃y,t=y::lA cap τ)
  (λi S1=>mR S S1/\S1.length=S.length+i/\∀j,j<i->iw S1 (S.length+j)=some ((T.getD j []).map .int)) (λi=>.ref<|J.getD i 0) (λi=>.ref<|S.length+i)
  (λi S1 hi h9=>by
   obtain⟨k,_,_⟩:=h9;have hi:i<J.length:=hi;show(iw S1 n).bind _=_;rw[k.lst n _ (λz=>z) h.top,cD,aX,aH hi,aI,aH hi];rfl)
  (λS1 h9=>by
   obtain⟨k,_,_⟩:=h9;show(match iw S1 n with
    | some ys=>decide (ys.length<=J.length)
    | none=>false)=true
   rw[k.lst n _ (λz=>z) h.top];simp)
  (λi t S1 hi ⟨y,hy⟩ ⟨k,d,hr⟩=>by
   have hi:i<J.length:=hi;subst hy;have e1:iw S1 (J.getD i 0)=some ((T.getD i []).map .int):=k.lst _ _ (λz=>z) (h.rows.get<|by rw[aI,aH hi];rfl).2;refine⟨.ref (J.getD i 0)::lA cap τ,S1,S1++[.lst<|(T.getD i []).map .int],rfl,⟨_,rfl⟩,?_,k.lay,by rw[aY,d];rfl,λj f=>?_⟩
   ·dsimp[iX,bools,e1,<- d]
   ·by_cases z:j<i
    ·exact k_ (hr j z)
    ·have:j=i:=()
     subst this;rw[<- d];exact iR)
  J.length 0 (lA (none::cap) τ) S rfl ⟨_,rfl⟩ ⟨Kp.refl,rfl,λj f=>absurd f<|cM _⟩
 have F:S'.length=S.length+J.length:=F;have C:∀j,j<J.length->iw S' (S.length+j)=some ((T.getD j []).map .int):=C;refine⟨(List.range' 0 J.length).map (S.length+·),S'.length,S'++[.lst<|((List.range' 0 J.length).map (S.length+·)).map .ref],?_,⟨iR,Rows.mk (by simp[B]) λi hi=>?_,?_⟩,h2.lay,λr hr=>?_⟩
 ·unfold jA;rw[hs,R.jK];show R.jb (jN (i9 n J.length) (i_ 0) jF _ J.length 0 (lA (none::cap) τ) S) _=_;rw[h1,R.i8,jn<|by simp;lia,bL];rfl
 ·refine k_ ?_;have:((List.range' 0 J.length).map (S.length+·)).getD i 0=S.length+i:=by
   rw[aI,aX,List.getElem?_range' ()];simp
  rw[this];exact C i ()
 ·rw[bO];refine⟨λz=>?_,?_⟩
  ·obtain⟨j,f,e⟩:=bK.mp z;have:=List.mem_range'.mp f
   lia
  ·rw[List.nodup_iff_pairwise_ne,eG];exact(List.nodup_range' (step:=1)).imp λh z=>h ()
 ·rcases a_.mp hr with z|z
  ·rw[z];lia
  ·obtain⟨j,f,e⟩:=bK.mp z
   lia
def vc{n:Nat}:(List.range n).filter (λ_=>true)=List.range n:=cL.mpr λ_ _=>rfl
def sM{src:Ic}{S:iC}{n:Nat}{j:am}{T:List<|ag}(h:Tab S n j T)(hs:src τ S=.ok (i9 n (j.map A.ref).length) S)(J:T.length<=1000000) :
  jA (none::cap) src (i_ 0) jF (iT (f1 kP)<|iy (iu 0) iJ) τ S=.ok (.ref S.length) (S++[.lst<|(T.map λr=>(r.length:Int)).map .int]):=by
 have d:=h.len;rw[aL]at hs;rw[sf (s:=i9 n j.length) hs (λi=>.ref<|j.getD i 0) (λ_=>true) (λi=>.int ((T.getD i []).length:Int)) (λi hi=>by
   have hi:i<j.length:=hi;show(iw S n).bind _=_;rw[h.top,cD,aX,aH hi,aI,aH hi];rfl) (by
   show(match iw S n with
    | some ys=>decide (ys.length<=j.length)
    | none=>false)=true
   rw[h.top];simp) (λ_ _=>rfl) (λi hi _=>by
   have hi:i<j.length:=hi;have e1:iw S (j.getD i 0)=some ((T.getD i []).map .int):=(h.rows.get<|by rw[aI,aH hi];rfl).2;dsimp[iX,bools,e1,aL])<|by show j.length<=_;lia]
 show R.ok (A.ref S.length) (S++[O.lst<|List.map _<|List.filter (λ_=>true)<|List.range j.length])=_;have f:(List.range j.length).map (λi=>A.int ((T.getD i []).length:Int))=(T.map λr=>(r.length:Int)).map .int:=by
  rw[d,bL];refine List.ext_getElem (by rw[aL,aL,gJ]) λi h1 h2=>?_;have hi:i<T.length:=by rw[aL]at h2;exact h2
  rw[List.getElem_map,List.getElem_map,List.getElem_range,aI,aH hi];rfl
 rw[vc,<- f]
def yM{a:Nat}{xs ys:ag}(h:iw S a=some (xs.map .int))(h':iw S b=some (ys.map .int)):vV S 12 (.ref a) (.ref b)=some (decide<|xs=ys):=by
 show(iw S a).bind (λxs=>(iw S b).bind λys=>uJ (vV S 11) xs ys)=_;rw[h,cD,h',cD];exact wk xs ys
def Aw{a:A}{k:Bool}(h:vV S 12 a b=some k):uf false a b S=.ok (.bl k) S:=by unfold uf;rw[h];rfl
def wI{a:A}{k:Bool}(h:vV S 12 a b=some k):uf true a b S=.ok (.bl<|!k) S:=by unfold uf;rw[h];rfl
def uK{xs:ae}{n:Nat}{src:Ic}{t:Te}{e:Ex}{S:iC}(hs:src τ S=.ok (i9 n xs.length) S)(hx:iw S n=some xs)(p:A->Bool)(f:A->A)
  (j:∀x∈xs,t (x::lA cap τ) S=.ok (p x) S) (J:∀x∈xs,p x=true->e (x::lA cap τ) S=.ok (f x) S) (L:xs.length<=16777216) :
  jA (none::cap) src (i_ 0) t e τ S=.ok (.ref S.length) (S++[.lst<|(xs.filter p).map f]):=by
 have hm:∀i,i<xs.length->xs.getD i .unb∈xs:=λi hi=>by
  rw[aI,aH hi];exact cO hi
 rw[sf hs (λi=>xs.getD i .unb) (λi=>p<|xs.getD i .unb) (λi=>f<|xs.getD i .unb) (λi hi=>by
  have hi:i<xs.length:=hi;show(iw S n).bind _=_;rw[hx,cD,aI,aH hi];rfl) (by
   show(match iw S n with
    | some ys=>decide (ys.length<=xs.length)
    | none=>false)=true
   rw[hx];simp) (λi hi=>j _<|hm i hi) (λi hi=>J _<|hm i hi) L]
 have:=nS xs p f .unb;show R.ok _ (S++[O.lst<|((List.range xs.length).filter _).map _])=_;rw[this]
def getD_at{r:ag}{k:Nat}(h:k<r.length):r[k]?=some (r.getD k 0):=by rw[aI,aH h];rfl
def z9{r:ag}{i:Int}{k:Nat}(h:i=k)(j:k<r.length):oM (r.map A.int) i=some (.int<|r.getD k 0):=t7 h<|getD_at j
theorem BZ:∀(bs:List Bool),A.KY (bs.map .bl)=some bs
 | []=>rfl
 | b::bs=>by show(A.KY<|bs.map .bl).map (b::·)=_;rw[BZ bs];rfl
end Am
namespace Sy
open Tb
abbrev vp (r:ag):Prop:=r.Pairwise (·<=·)
abbrev Fits (u r:ag):Prop:=u.length<=r.length/\∀(j:Nat) (x y:Int),r[j]?=some x->u[j]?=some y->x<y
abbrev jM:List (ag)->Prop
 | []=>True
 | r::T=>r≠[]/\vp r/\(∀u,T.head?=some u->Fits u r)/\jM T
def nO{r:ag}{x:Int}{j:Nat}{y:Int}(h:j<fg r x)(hy:r[j]?=some y):y<=x:=by
 obtain⟨d,e⟩:=aK.mp hy;have:=d_ (xs:=r) (p:=λy=>decide<|x<y) (i:=j) h;rw[<- e];simpa using this
def zq{r:ag}{x y:Int}(hy:r[fg r x]?=some y):x<y:=by
 obtain⟨d,e⟩:=aK.mp hy;have:=dH (xs:=r) (p:=λy=>decide<|x<y) (w:=d);rw[<- e];exact gK this
def Fp{r:ag}{x y:Int}{p:Nat}(hy:r[p]?=some y)(h:x<y):fg r x<=p:=by
 rcases dI p (fg r x)with z|z
 ·exact absurd (nO z hy) ()
 ·exact z
abbrev hd (T:List<|ag)(y:Int):ag:=match T with
 | []=>[y]
 | u::_=>if fg u y=u.length then u++[y]else u.set (fg u y) y
def FD(T:List<|ag)(y:Int):(put T y).head?=some (hd T y):=by
 cases T with
 | nil=>rfl
 | cons u T=>
  by_cases h:fg u y=u.length
  ·rw[kL h];show _=some (if _ then _ else _);rw[aR h];rfl
  ·rw[mz h];show _=some (if _ then _ else _);rw[aU h];rfl
def Hh{r:ag}{T:List<|ag}{p:Nat}{x y:Int}(hp:r[p]?=some y)(J:x<y)(hb:∀j z,j<p->r[j]?=some z->z<=x)(hf:∀u,T.head?=some u->Fits u r):Fits (hd T y) (r.set p x):=by
 obtain⟨k,B⟩:=aK.mp hp;have g:∀(q:Nat) (z:Int),q<=p->(r.set p x)[q]?=some z->z<y:=λq z F d=>by
  rw[fM]at d;by_cases e:p=q
  ·rw[aR e,aR k]at d;have:=aV d;lia
  ·rw[aU e]at d;have:=hb q z () d;lia
 cases T with
 | nil=>
  refine⟨by rw[bG];show 1<=_;lia,λj z w d hw=>?_⟩;have hw:([y]:ag)[j]?=some w:=hw
  cases j with
  | zero=>have:=aV hw;have:=g 0 z (bN _) d;lia
  | succ j=>simp at hw
 | cons u T=>
  obtain⟨t,hc⟩:=hf u rfl;have C:fg u y<=p:=by
   rcases dI p u.length with z|z
   ·have m:=aH z;exact Fp m (hc p y _ hp m)
   ·exact bH (Bg u y) z
  have f:∀(j:Nat) (z w:Int),(r.set p x)[j]?=some z->u[j]?=some w->z<w:=λj z w d hw=>by
   rw[fM]at d;by_cases e:p=j
   ·rw[aR e,aR k]at d;have:=aV d;have:=hc p y w hp (by rw[e];exact hw)
    lia
   ·rw[aU e]at d;exact hc j z w d hw
  show Fits (if fg u y=u.length then u++[y]else u.set (fg u y) y) (r.set p x);by_cases h:fg u y=u.length
  ·rw[aR h];refine⟨by rw[bG,aY];show u.length+1<=_;lia,λj z w d hw=>?_⟩
   rcases dI j u.length with q|q
   ·rw[aS q]at hw;exact f j z w d hw
   ·rw[b9 q]at hw;have e:j-u.length=0:=by
     rcases Nat.eq_zero_or_pos (j-u.length)with z|z
     ·exact z
     ·rw[List.getElem?_eq_none<|by show([y]:ag).length<=_;exact z]at hw;cases hw
    rw[e]at hw;have:=aV hw;have:=g j z () d
    lia
  ·rw[aU h];refine⟨by rw[bG,bG];exact t,λj z w d hw=>?_⟩;rw[fM]at hw;by_cases e:fg u y=j
   ·rw[aR e,aR<|uU h]at hw;have:=aV hw;have:=g j z () d
    lia
   ·rw[aU e]at hw;exact f j z w d hw
def yY{r:ag}{x:Int}(h:vp r)(hx:∀y∈r,y<=x):vp (r++[x]):=by
 unfold vp;rw[cU];exact⟨h,by simp,λa d b hb=>by rw[br.mp hb];exact hx a d⟩
def KZ{r:ag}{x:Int}(h:fg r x=r.length):∀y∈r,y<=x:=λy hy=>by
 obtain⟨j,d,e⟩:=dF.mp hy;exact nO (r:=r) (j:=j) ()<|by rw[aH d,e]
def Ka{r:ag}{x:Int}(h:vp r)(hf:fg r x≠r.length):vp (r.set (fg r x) x):=by
 have d:=uU hf;have k:=zq<|aH d;unfold vp at h ⊢;rw[eO]at h ⊢;intro i j hi f g;rw[bG]at hi f;rw[List.getElem_set,List.getElem_set];by_cases e1:fg r x=i
 ·rw[aR e1,aU ()];have:=h (fg r x) j d f ()
  lia
 ·rw[aU e1];by_cases e2:fg r x=j
  ·rw[aR e2];exact nO (j:=i) () (aH hi)
  ·rw[aU e2];exact h i j hi f g
theorem uB:∀{T:List<|ag}{x:Int},jM T->jM (put T x)
 | [],x,_=>⟨by simp,by show List.Pairwise _ _;simp,(λu h=>by cases h),trivial⟩
 | r::T,x,h=>by
  obtain⟨h1,h2,t,m⟩:=h;by_cases hf:fg r x=r.length
  ·rw[kL hf];refine⟨by simp,yY h2<|KZ hf,λu d=>?_,m⟩;obtain⟨g1,g2⟩:=t u d;refine⟨by rw[aY];lia,λj a b k hb=>?_⟩;have g:=(aK.mp hb).1;rw[aS ()]at k;exact g2 j a b k hb
  ·rw[mz hf];have f:=uU hf;have hy:r[fg r x]?=some (r.getD (fg r x) 0):=by rw[aI,aH f];rfl
   refine⟨λz=>h1<|by simpa using z,Ka h2 hf,λu d=>?_,uB m⟩;rw[FD]at d;rw[<- aV d];exact Hh hy (zq hy) (λj z g B=>nO g B) t
theorem l_(xs:ag):∀i,i<=xs.length->(tabs xs i).1=(xs.take i).foldl put []
 | 0,_=>rfl
 | i+1,h=>by
  show put (tabs xs i).1 (xs.getD i 0)=_;rw[l_ xs i (),fN (),gM,aI,aH ()];rfl
theorem se:∀(xs:ag) {T:List<|ag},jM T->jM (xs.foldl put T)
 | [],_,h=>h
 | x::xs,_,h=>se xs<|uB h
abbrev plain (T:List<|ag):ag:=T.reverse.flatten
def iQ(r:ag)(T:List<|ag):plain (r::T)=plain T++r:=by unfold plain;simp
end Sy
namespace K63
open PySem L2 Am
abbrev zC (S:iC)(b:Nat):Prop:=∃g st:Int,iw S b=some [.int g,.int st]/\0<=g/\0<=st/\st<4294967296
def zC.kp{c:Nat->Prop}(h:zC S b)(k:Kp c S S')(hb:¬c b):zC S' b:=by
 obtain⟨g,st,e,q⟩:=h;exact⟨g,st,k.lst b _ hb e,q⟩
def zC.lt{S:iC}(h:zC S b):b<S.length:=by obtain⟨_,_,e,_⟩:=h;exact mO e
def Jx{S:iC}{ns:ag}{k:Int}(h0:0<=k)(h1:k<=100):∃S',nU [.frz<|ns.map .int,.int k] S=.ok (.ref S.length) S'/\zC S' S.length/\mR S S':=by
 have t:Dc (.int 10) (.int 18)=λS=>R.ok (.int 1000000000000000000) S:=by
  funext S;exact jZ ⟨by decide,by decide,by decide⟩
 have m1:∀x:Int,xh (.int x) (.int 2147483647)=λS=>R.ok (.int<|x % 2147483647) S:=λx=>by funext S;exact yU ⋯
 have j:∀x:Int,zT (.int 7919) (.int x)=λS=>R.ok (.int<|7919 * x) S:=λx=>by funext S;exact Ew ⋯ ⋯
 have g:∀x:Int,0<=x % 2147483647:=λx=>gn _ ⋯;have z:∀x:Int,x % 2147483647<4294967296:=λx=>by have:=fC x (show(0:Int)<2147483647 by decide);lia
 have m:∀d:Int,∃S',((RS.seq (.nx [A.frz<|ns.map .int,.int k,.int d,.unb] S) (iZ (jf (eC<|.int 0)<|i_ 3)
  (iZ (vn (p_<|iL P4 (iu 2)<|iL Dc (eC<|.int 10)<|eC<|.int 18) (jf (iu 2)<|i_ 3)<|nM)
  (jV<|qX<|iy (iu 3)<|iy (iL xh (iL ow (iL ow (iu 2)<|iL zT (eC<|.int 7919)<|iu 1)<|eC<|.int 13)<|eC<|.int 2147483647)<|iJ)))).end=.ok (.ref S.length) S')/\zC S' S.length/\mR S S':=by
  intro d;by_cases hc:1000000000000000000<=d
  ·dsimp[iX,bools,t,m1,j,bu hc];exact⟨_,rfl,⟨_,_,iR,(),g _,z _⟩,Kp.refl.lay⟩
  ·dsimp[iX,bools,t,m1,j,bw hc];exact⟨_,rfl,⟨_,_,iR,c6 0,g _,z _⟩,Kp.refl.lay⟩
 unfold nU sI sD;dsimp[iX,bools,l7,Nat.reduceAdd,Nat.reduceSub,aL];by_cases f:k<(ns.length:Int)
 ·have hn:k.toNat<ns.length:=()
  have B:oM (ns.map A.int) k=some (.int ns[k.toNat]):=t7 (k:=k.toNat) ()<|aH hn;rw[bu f];dsimp[iX,bools,B];have:=m ns[k.toNat];simpa only [iX,bools]using this
 ·rw[bw f];dsimp[iX,bools];have:=m 0;simpa only [iX,bools]using this
def digit{m:Int}(h:zC S b)(h1:1<=m)(h2:m<1073741824):∃d S',jo [.ref b,.int m] S=.ok (.int d) S'/\0<=d/\d<m/\zC S' b/\Kp (·=b) S S':=by
 obtain⟨g,st,z,hg,hs,B⟩:=h;have hb:=mO z;have i0:zD 2 0=some 0:=xo rfl ⋯;have C:zD 2 1=some 1:=xo rfl ⋯;have j:∀d t f:Int,0<=d->d<m->0<=t->0<=f->f<4294967296->jo [.ref b,.int m] S=.ok (.int d) (S.set b<|.lst [.int t,.int f])->∃d S',jo [.ref b,.int m] S=.ok (.int d) S'/\0<=d/\d<m/\zC S' b/\Kp (·=b) S S':=
  λd t f L F G J K e=>⟨d,_,e,L,F,⟨t,f,om hb,G,J,K⟩,Kp.refl.set<|.inl rfl⟩
 by_cases k:0<g
 ·refine j (g % m) (g / m) st (gn _ ()) (fC _ ()) (Int.ediv_nonneg hg ()) hs B ?_;unfold jo m8 mZ;rw[t9];simp[z,L8,L3,k,yU<|show 0<m by lia,IS (show 0<m by lia) h2,i0]
 ·have e1:0<=(st * 48271+11) % 2147483647:=gn _ ⋯;have e2:(st * 48271+11) % 2147483647<2147483647:=fC _ ⋯;have M:0<=(st * 48271+11) % 2147483647 / 8:=()
  refine j ((st * 48271+11) % 2147483647 / 8 * 69621 % 2147483629 % m) g ((st * 48271+11) % 2147483647) (gn _ ()) (fC _ ()) hg e1 () ?_;unfold jo m8 mZ;rw[t9];simp[z,L8,L3,k,C,Ew (show -18446744073709551616<st by lia) (),yU<|show(0:Int)<2147483647 by decide,om hb,IS (show(0:Int)<8 by decide) ⋯,Ew (show -18446744073709551616<(st * 48271+11) % 2147483647 / 8 by lia) (),yU<|show(0:Int)<2147483629 by decide,yU<|show 0<m by lia]
theorem ym{v:Int}:∀(xs:ag),∃b,P0 S (.int v) (xs.map .int)=some b
 | []=>⟨_,rfl⟩
 | x::xs=>by
  obtain⟨b,e⟩:=ym (S:=S) (v:=v) xs;refine⟨(x == v) || b,?_⟩;show(vV S 12 (.int x)<|.int v).bind _=_;show Option.bind (some<|x == v) _=_;show Option.map _ (P0 S (.int v)<|xs.map .int)=_;rw[e];rfl
def Q0:Dc (.int 10) (.int 9)=λS=>R.ok (.int 1000000000) S:=by funext S;exact jZ ⟨by decide,by decide,by decide⟩
def zG{S:iC}{most:Int}(h:zC S b)(h0:0<=most)(h1:most<=100) :
  ∃(xs:ag) (L:Nat) (S':iC),kh [.ref b,.int most] S=.ok (.ref L) S'/\iw S' L=some (xs.map .int)/\(xs.length:Int)<=most/\(∀x∈xs,1<=x/\x<=1000000000)/\zC S' b/\Kp (·=b) S S'/\S.length<=L:=by
 obtain⟨d,S1,e1,d0,d1,Z,k1⟩:=digit (m:=most+1) h () ();obtain⟨w,S2,e2,w0,w1,P,k2⟩:=digit (m:=4) Z ⋯ ⋯;obtain⟨base,B,b0,b1⟩:∃base:Int,oM ([.int 3,.int 6,.int 1000000000,.int 40]:ae) w=some (.int base)/\1<=base/\base<=1000000000:=by
  rcases(by lia:w=0\/w=1\/w=2\/w=3)with z|z|z|z<;>subst z
  ·exact⟨3,rfl,by decide,by decide⟩
  ·exact⟨6,rfl,by decide,by decide⟩
  ·exact⟨1000000000,rfl,by decide,by decide⟩
  ·exact⟨40,rfl,by decide,by decide⟩
 have hbS:=h.lt;have l1:=k1.len;have l2:=k2.len;unfold kh nJ nh;dsimp[iX,bools,l7,Nat.reduceAdd,Nat.reduceSub,e1,e2,Q0,B];generalize hS3:S2++[O.lst [.int 3,.int 6,.int 1000000000,.int 40]]=S3;have k3:Kp (·=b) S S3:=by rw[<- hS3];exact(k1.trans k2).lay
 have M:zC S3 b:=by rw[<- hS3];exact P.kp (c:=λ_=>False) Kp.refl.lay λz=>z
 have l3:S.length<=S3.length:=k3.len;have nb:S3.length≠b:=()
 refine qU (lo:=0) (hi:=d) (S1:=S3++[.lst []]) (pA (by dsimp[iX,bools])<|mU () ())
  (λi τ S4=>∃(xs:ag) (F G:A),τ=[.ref b,.int most,.int d,.int w,.int base,.ref S3.length,F,G]/\iw S4 S3.length=some (xs.map .int)/\xs.length=i/\(∀x∈xs,1<=x/\x<=1000000000)/\zC S4 b/\Kp (·=b) S S4)
  (λr=>∃(xs:ag) (L:Nat) (S':iC),RS.end (RS.seq r _)=.ok (.ref L) S'/\iw S' L=some (xs.map .int)/\(xs.length:Int)<=most/\(∀x∈xs,1<=x/\x<=1000000000)/\zC S' b/\Kp (·=b) S S'/\S.length<=L)
  ⟨[],_,_,rfl,iR,rfl,(λ_ h=>by cases h),M.kp (c:=λ_=>False) Kp.refl.lay λz=>z,k3.lay⟩ ?_ ?_
 ·rintro i τ S4 hi ⟨xs,F,G,rfl,Y,j,hx,C,N⟩;left;obtain⟨e,S5,e5,f0,f1',K,k5⟩:=digit (m:=base) C b0 ();have f:=k5.lst _ _ nb Y;have lL:=mO f;have k:∀l:Int,1<=l->l<=1000000000->∃(ys:ag) (F G:A),[A.ref b,.int most,.int d,.int w,.int base,.ref S3.length,.int<|0+(i:Int),.int l]=[.ref b,.int most,.int d,.int w,.int base,.ref S3.length,F,G]/\iw (S5.set S3.length<|.lst<|xs.map A.int++[.int l]) S3.length=some (ys.map .int)/\ys.length=i+1/\(∀x∈ys,1<=x/\x<=1000000000)/\zC (S5.set S3.length<|.lst<|xs.map A.int++[.int l]) b/\Kp (·=b) S (S5.set S3.length<|.lst<|xs.map A.int++[.int l]):=λl V hl1=>by
   refine⟨xs++[l],_,_,rfl,by rw[om lL,bU];rfl,by rw[aY,j];rfl,λx U=>?_,?_,(N.trans k5).set<|.inr l3⟩
   ·rcases bA.mp U with z|z
    ·exact hx x z
    ·rw[br.mp z];exact⟨V,hl1⟩
   ·obtain⟨g,st,e,q⟩:=K;exact⟨g,st,by rw[kU nb];exact e,q⟩
  have t:gd (xs.length<sizeLine)=λr:Am.R A=>r:=by funext r;exact rg (show xs.length<16777216 by lia)
  unfold oQ;dsimp[iX,bools,e5];by_cases hw:w=3
  ·rw[show(w == 3)=true by simpa using hw];obtain⟨bb,W⟩:=ym (S:=S5) (v:=1+e) xs;have J:Q6 false (.int<|1+e) (.ref S3.length) S5=.ok (.bl bb) S5:=by
    show opt (iw S5 S3.length) _=_;rw[f,iP,W];rfl
   dsimp[iX,bools,J]
   cases bb with
   | true=>
    dsimp[iX,bools,f,aL,t];exact⟨_,_,rfl,k _ () ()⟩
   | false=>
    dsimp[iX,bools,f,aL,t];exact⟨_,_,rfl,k _ () ()⟩
  ·rw[show(w == 3)=false by simpa using hw];dsimp[iX,bools,f,aL,t];exact⟨_,_,rfl,k _ () ()⟩
 ·rintro τ S4 ⟨xs,F,G,rfl,Y,j,hx,C,N⟩;dsimp[iX,bools];exact⟨xs,_,_,rfl,Y,(),hx,C,N,l3⟩
def OW{r:Nat}{R:ag}{x:Int}(h:iw S r=some (R.map .int))(J:R.length<=1000):jO [.ref r,.int x] S=.ok (.int (Tb.fg R x:Nat)) S:=by
 unfold jO lG lT;dsimp[iX,bools,l7,Nat.reduceAdd,Nat.reduceSub];have f:=Tb.Bg R x;have d:=pK (t:=kJ) (c:=kK)
  (λτ S1=>S1=S/\∃k:Nat,τ=[.ref r,.int x,.int k]/\k<=Tb.fg R x)
  (λτ S1=>match τ with
   | [_,_,.int k]=>R.length-k.toNat
   | _=>0)
  (λq=>RS.end (RS.seq q<|jV<|iu 2)=.ok (.int (Tb.fg R x:Nat)) S) ?_ 1000000
 ·refine d _ _ ⟨rfl,0,rfl,bN _⟩ ?_;show R.length-_<_
  lia
 ·rintro τ S1 ⟨rfl,k,rfl,j⟩;unfold kJ kK;dsimp[iX,bools,h,aL];by_cases h1:k<R.length
  ·have g:oM (R.map A.int) (k:Int)=some (.int<|R.getD k 0):=z9 rfl h1;rw[bu<|show(k:Int)<R.length by lia];dsimp[iX,bools,h,g];by_cases h2:k=Tb.fg R x
   ·have hg:x<R.getD k 0:=by
     have:=dH (xs:=R) (p:=λy=>decide<|x<y) (w:=by subst h2;exact h1);have e:R.findIdx (λy=>decide<|x<y)=k:=h2.symm;dsimp[e]at this;rw[aI,aH h1];simpa using this
    left;refine⟨S1,by rw[bw ()],?_⟩;dsimp[iX,bools,h2]
   ·have hg:R.getD k 0<=x:=by
     have:=d_ (xs:=R) (p:=λy=>decide<|x<y) (i:=k) (show k<Tb.fg R x by lia);rw[aI,aH h1];simpa using this
    right;refine⟨S1,by rw[bu hg],.inl ⟨_,_,rfl,⟨rfl,k+1,rfl,()⟩,?_⟩⟩;show R.length-((k:Int)+1).toNat<R.length-(k:Int).toNat
    lia
  ·left;rw[bw<|show ¬(k:Int)<R.length by lia];have:k=Tb.fg R x:=()
   refine⟨S1,by dsimp[iX,bools],?_⟩;dsimp[iX,bools,this]
def N4{S:iC}{m:Nat}{qs:am}{T:List<|ag}{x:Int}(h:Tab S m qs T)(hl:T.length<=1000)(hr:∀i,(T.getD i []).length<=1000) :
  ∃(qs':am) (S':iC),jP [.ref m,.int x] S=.ok (.int (Tb.row T x:Nat)) S'/\Tab S' m qs' (Tb.put T x)/\Kp (·∈m::qs) S S'/\∀r∈qs',r∈qs\/S.length<=r:=by
 unfold jP lD lU;dsimp[iX,bools,l7,Nat.reduceAdd,Nat.reduceSub];have P:=h.len;have hm:m∈m::qs:=aM ..;have V:=pK (t:=kF) (c:=kM)
  (λτ S2=>∃(i:Nat) (U:List<|ag) (y:Int) (a3:A),τ=[.ref m,.int y,.int i,a3]/\i<=T.length/\Tab S2 m qs U/\Kp (·∈m::qs) S S2/\U.length=T.length/\(∀j,(U.getD j []).length<=1000)/\Tb.put T x=U.take i++Tb.put (U.drop i) y/\Tb.row T x=i+Tb.row (U.drop i) y)
  (λτ S1=>match τ with
   | [_,_,.int k,_]=>T.length-k.toNat
   | _=>0)
  (λq=>∃(qs':am) (S':iC),RS.end (RS.seq q<|iZ (qe<|IX lg (iu 0)<|iy (qX<|iy (iu 1) iJ) iJ)<|jV<|iu 2)=.ok (.int (Tb.row T x:Nat)) S'/\Tab S' m qs' (Tb.put T x)/\Kp (·∈m::qs) S S'/\∀r∈qs',r∈qs\/S.length<=r) ?_ 1000000
 ·refine V _ _ ⟨0,T,x,_,rfl,bN _,h,Kp.refl,rfl,hr,rfl,by rw[gX];rfl⟩ ?_;show T.length-_<_
  lia
 ·rintro τ S2 ⟨i,U,y,a3,rfl,hi0,h2,k2,hU,L,B,d⟩;unfold kF;dsimp[iX,bools,h2.top,aL,P];by_cases hi':i<T.length
  ·right;refine⟨S2,by rw[bu ()],?_⟩;have Z:i<qs.length:=()
   have hi:i<U.length:=()
   generalize hr0:qs.getD i 0=r;have F:qs[i]?=some r:=by rw[<- hr0,aI,aH Z];rfl
   obtain⟨_,g⟩:=h2.rows.get F;generalize hR:U.getD i []=R at g;have N:R.length<=1000:=by rw[<- hR];exact L i
   have f:U.drop i=R::U.drop (i+1):=by
    rw[bV hi,<- hR,aI,aH hi];rfl
   have J:r∈m::qs:=aN _<|bx F;have hnm:r≠m:=λz=>(bO.mp h2.nd).1 (by rw[<- z];exact bx F);have W:oM (qs.map A.ref) (i:Int)=some (.ref r):=n9 rfl (by rw[aX,F];rfl);have e6:∀Y,U.set i Y=U.take i++Y::U.drop (i+1):=λY=>by rw[fG,aR hi]
   unfold kM;dsimp[iX,bools,h2.top,W,OW g N,g,aL];by_cases C:Tb.fg R y=R.length
   ·right;rw[show(((Tb.fg R y:Nat):Int) == (R.length:Int))=true by rw[C];simp];dsimp[iX,bools,h2.top,W,g,aL,rg<|show R.length<16777216 by lia];have G:=h2.set (i:=i) (r:=r) (ys:=R++[y]) F;rw[bU]at G;rw[f,Tb.p8 C]at d;refine⟨_,_,rfl,qs,_,by rw[d];rfl,?_,k2.set<|.inl J,λr hr=>.inl hr⟩;rw[B,f,Tb.kL C,<- e6];exact G
   ·left;have M:=Tb.uU C;have e1:oM (R.map A.int) (Tb.fg R y:Int)=some (.int<|R.getD (Tb.fg R y) 0):=z9 rfl M;have e2:zD R.length (Tb.fg R y:Int)=some (Tb.fg R y):=xo rfl M;rw[show(((Tb.fg R y:Nat):Int) == (R.length:Int))=false by rw[cX];lia];dsimp[iX,bools,h2.top,W,g,e1,aL,e2,qL<|show([_,_]:ae).length<=16777216 by simp,jZ<|show([_,_]:ae).length=2 from rfl];have G:=h2.set (i:=i) (r:=r) (ys:=R.set (Tb.fg R y) y) F;rw[map_set]at G;have l1:(U.take i).length=i:=by rw[b8];lia
    have d1:(U.set i<|R.set (Tb.fg R y) y).drop (i+1)=U.drop (i+1):=by
     rw[e6,List.drop_append,l1,Nat.add_sub_cancel_left,cZ (by lia:(U.take i).length<=i+1)];simp
    have t1:(U.set i<|R.set (Tb.fg R y) y).take (i+1)=U.take i++[R.set (Tb.fg R y) y]:=by
     rw[e6,List.take_append,l1,Nat.add_sub_cancel_left,d9 (by lia:(U.take i).length<=i+1)];simp
    refine⟨_,_,rfl,⟨i+1,U.set i<|R.set (Tb.fg R y) y,_,_,rfl,(),G,k2.set<|.inl J,by rw[bG];exact hU,λj=>?_,?_,?_⟩,?_⟩
    ·rw[aI,fM];by_cases hj:i=j
     ·rw[aR hj,aR hi];simpa using N
     ·rw[aU hj,<- aI];exact L j
    ·rw[B,f,Tb.mz C,t1,d1];simp
    ·rw[d,f,Tb.sO C,d1];lia
    ·show T.length-((i:Int)+1).toNat<T.length-(i:Int).toNat
     lia
  ·left;have K:i=U.length:=()
   refine⟨S2,by rw[bw ()],?_⟩;rw[K,gR,f7]at B;rw[K,f7]at d;have lm:iw (S2++[O.lst [.int y]]) m=some (qs.map .ref):=k_ h2.top;dsimp[iX,bools,h2.top,lm,aL,rg<|show qs.length<16777216 by lia];have G:=h2.push (ys:=[y]);rw[bU]at G;refine⟨qs++[S2.length],_,by rw[d,K];rfl,?_,k2.lay.set<|.inl hm,λr hr=>?_⟩
   ·rw[B];exact G
   ·rcases bA.mp hr with z|z
    ·exact .inl z
    ·right;rw[br.mp z];exact k2.len
def F2{S:iC}{xs:ag}(h:iw S L=some (xs.map .int))(hl:xs.length<=100) :
  ∃(rs qs:am) (n m:Nat) (S':iC),pN [.ref L] S=.ok (.tup [.ref n,.ref m]) S'/\Tab S' n rs (Tb.tabs xs xs.length).1/\Tab S' m qs (Tb.tabs xs xs.length).2/\mR S S'/\(∀r∈n::rs,S.length<=r)/\(∀r∈m::qs,S.length<=r)/\∀r∈n::rs,r∉m::qs:=by
 have lL:=mO h;unfold pN uh uL;dsimp[iX,bools,l7,Nat.reduceAdd,Nat.reduceSub];have lb:(S++[O.lst []]).length=S.length+1:=by rw[aY];rfl
 have k0:mR S (S++[O.lst []]++[O.lst []]):=Kp.refl.lay.lay;have h0:=k0.lst _ _ (λz=>z) h;have hs:uo [.ref L,.ref S.length,.ref (S++[O.lst []]).length,.unb,.unb,.unb] (S++[O.lst []]++[O.lst []])=.ok (o8 L (xs.map A.int).length) (S++[O.lst []]++[O.lst []]):=By (by dsimp[iX,bools]) h0;unfold mW;rw[hs];refine rY (s:=o8 L (xs.map A.int).length)
  (λi τ S1=>∃(rs qs:am) (a3 a4 a5:A),τ=[.ref L,.ref S.length,.ref (S++[O.lst []]).length,a3,a4,a5]/\Tab S1 S.length rs (Tb.tabs xs i).1/\Tab S1 (S++[O.lst []]).length qs (Tb.tabs xs i).2/\mR S S1/\(∀r∈S.length::rs,S.length<=r)/\(∀r∈(S++[O.lst []]).length::qs,S.length<=r)/\∀r∈S.length::rs,r∉(S++[O.lst []]).length::qs)
  (λq=>∃(rs qs:am) (n m:Nat) (S':iC),RS.end (RS.seq q _)=.ok (.tup [.ref n,.ref m]) S'/\Tab S' n rs (Tb.tabs xs xs.length).1/\Tab S' m qs (Tb.tabs xs xs.length).2/\mR S S'/\(∀r∈n::rs,S.length<=r)/\(∀r∈m::qs,S.length<=r)/\∀r∈n::rs,r∉m::qs)
  ?_ ?_ (xs.map A.int).length 0 _ _ rfl
  ⟨[],[],_,_,_,rfl,Tab.nil<|k_ iR,Tab.nil iR,k0,(λr hr=>by rw[br.mp hr];exact aP _),(λr hr=>by rw[br.mp hr,lb];lia),λr hr C=>by rw[br.mp hr]at C;have:=br.mp C;lia⟩
 ·rintro i τ S1 hi ⟨rs,qs,a3,a4,a5,rfl,N,M,k1,fr,K,P⟩;have hi:i<(xs.map A.int).length:=hi;rw[aL]at hi;generalize hm:(S++[O.lst []]).length=m at M K P;obtain⟨z1,z2⟩:=Tb.uQ xs i;have hL1:=k1.lst _ _ (λz=>z) h;obtain⟨J,S2,e2,f,k2,W⟩:=N4 (x:=xs.getD i 0) N () (λj=>by have:=z2 j;lia);have d:Tab S2 m qs (Tb.tabs xs i).2:=M.kp k2 λr hr z=>P r z hr;generalize hX:xs.getD i 0=x at e2 f;generalize hTT:(Tb.tabs xs i).1=T at N f z1 z2 e2;generalize hQQ:(Tb.tabs xs i).2=Q at M d;have hQl:Q.length=T.length:=by rw[<- hQQ,<- hTT];exact Tb.HS xs i
  have hrl:=Tb.HJ T x;have lQ:=d.len;have Z:=k2.len;have ltQ:=M.lt;have ltT:=N.lt;have F:m∈m::qs:=aM ..;have nx:Tb.tabs xs (i+1)=(Tb.put T x,Tb.add Q (Tb.row T x)<|(i:Int)+1):=by rw[<- hTT,<- hQQ,<- hX];rfl
  have frS:∀r∈S.length::J,S.length<=r:=λr hr=>by
   rcases a_.mp hr with z|z
   ·rw[z];exact aP _
   ·rcases W r z with z|z
    ·exact fr r (aN _ z)
    ·exact bH k1.len z
  have g:∀r∈S.length::J,r∉m::qs:=λr hr C=>by
   rcases a_.mp hr with z|z
   ·exact P r (by rw[z];exact aM ..) C
   ·rcases W r z with z|z
    ·exact P r (aN _ z) C
    ·have:=ltQ r C;lia
  have k02:mR S S2:=k1.old k2 λa ha _ z=>absurd (fr a z) ();refine⟨.tup [.int i,.int x],[.ref L,.ref S.length,.ref m,.int i,.int x,a5],S1,?_,by dsimp[iX,bools,jZ<|show([_,_]:ae).length=2 from rfl],.inl ?_⟩
  ·show(iw S1 L).bind _=_;rw[hL1,cD,aX,aH hi,<- hX,aI,aH hi];rfl
  unfold uR;dsimp[iX,bools,e2,d.top,aL,lQ,hQl];by_cases hr:Tb.row T x=T.length
  ·rw[show(((Tb.row T x:Nat):Int) == (T.length:Int))=true by rw[hr];simp];have lm:iw (S2++[O.lst []]) m=some (qs.map .ref):=k_ d.top;have hP:=d.push (ys:=[]);rw[dD]at hP;have hPq:=hP.rows.get (i:=qs.length) (r:=S2.length) (by simp);have U:=hPq.2;have e4:(Q++[([]:ag)]).getD qs.length []=[]:=by rw[aI,lQ];simp
   rw[e4,dD]at U;have t:oM ((qs++[S2.length]).map A.ref) (Tb.row T x:Int)=some (.ref S2.length):=n9 (k:=qs.length) () (by simp);have B:=hP.top;rw[bU]at B t U;dsimp[iX,bools,d.top,lm,aL,rg<|show qs.length<16777216 by lia];dsimp[bC,dD]at B t U;dsimp[iX,bools,B,t,U,eg,rg<|show 0<16777216 by decide];have V:=hP.set (i:=qs.length) (r:=S2.length) (ys:=[(i:Int)+1]) (by simp);have s5:(Q++[[]]).set qs.length [(i:Int)+1]=Tb.add Q (Tb.row T x) ((i:Int)+1):=by
    rw[show Tb.row T x=Q.length by lia,Tb.CG,lQ];simp
   rw[s5,bU]at V;dsimp[bC,dD,gh]at V;have kk:Kp (λa=>a∈m::qs\/S2.length<=a) S2 (((S2++[O.lst []]).set m<|O.lst<|List.map A.ref qs++[A.ref S2.length]).set S2.length<|O.lst<|[]++[A.int<|(i:Int)+1]):=(Kp.refl.lay.set<|.inl<|.inl F).set<|.inr<|aP _;refine⟨_,_,rfl,J,qs++[S2.length],_,_,_,rfl,?_,?_,?_,frS,λr hr=>?_,λr hr C=>?_⟩
   ·rw[nx];exact f.kp kk λr hr z=>by
     rcases z with z|z
     ·exact g r hr z
     ·exact absurd (f.lt r hr) ()
   ·rw[nx];exact V
   ·exact(k02.lay.set<|.inr<|K m F).set (.inr<|bH k1.len Z)
   ·rcases a_.mp hr with z|z
    ·rw[z];exact K m F
    ·rcases bA.mp z with z|z
     ·exact K r (aN _ z)
     ·rw[br.mp z];exact bH k1.len Z
   ·have hrl:=f.lt r hr
    rcases a_.mp C with z|z
    ·exact g r hr (by rw[z];exact F)
    ·rcases bA.mp z with z|z
     ·exact g r hr (aN _ z)
     ·have:=br.mp z;lia
  ·rw[show(((Tb.row T x:Nat):Int) == (T.length:Int))=false by rw[cX];lia];have hrq:Tb.row T x<qs.length:=()
   generalize hq0:qs.getD (Tb.row T x) 0=q;have G:qs[Tb.row T x]?=some q:=by rw[<- hq0,aI,aH hrq];rfl
   have U:=(d.rows.get G).2;have t:oM (qs.map A.ref) (Tb.row T x:Int)=some (.ref q):=n9 rfl (by rw[aX,G];rfl);have hbq:(Q.getD (Tb.row T x) []).length<=100:=by
    have e:=Tb.pO Q<|Tb.row T x;have:=Tb.jC xs i;rw[hTT,hQQ]at this;rw[<- e,this,Tb.pO];have:=z2<|Tb.row T x;lia
   have Y:q∈m::qs:=aN _<|bx G;dsimp[iX,bools,d.top,t,U,aL,rg<|show(Q.getD (Tb.row T x) []).length<16777216 by lia];have V:=d.set (i:=Tb.row T x) (r:=q) (ys:=Q.getD (Tb.row T x) []++[(i:Int)+1]) G;rw[<- Tb.GU Q (Tb.row T x) _ (),bU]at V;have kk:Kp (·∈m::qs) S2 (S2.set q<|O.lst<|(Q.getD (Tb.row T x) []).map A.int++[A.int<|(i:Int)+1]):=Kp.refl.set<|.inl Y;refine⟨_,_,rfl,J,qs,_,_,_,rfl,?_,?_,?_,frS,λr hr=>K r hr,λr hr C=>g r hr C⟩
   ·rw[nx];exact f.kp kk λr hr z=>g r hr z
   ·rw[nx];exact V
   ·exact k02.set<|.inr<|K q Y
 ·rintro τ S1 ⟨rs,qs,a3,a4,a5,rfl,N,M,k1,fr,K,P⟩;have ek:(o8 L (xs.map A.int).length).k=xs.length:=aL ..;rw[ek]at N M;refine⟨?_,?_⟩
  ·show(match iw S1 L with
    | some ys=>decide (ys.length=(xs.map A.int).length)
    | none=>false)=true
   rw[k1.lst _ _ (λz=>z) h];simp
  ·dsimp[iX,bools,qL<|show([_,_]:ae).length<=16777216 by simp];exact⟨rs,qs,_,_,_,rfl,N,M,k1,fr,K,P⟩
end K63
namespace Sy
open Tb
abbrev ls (r:ag)(y:Int):Nat:=(r.findIdx λz=>decide<|y<=z)-1
abbrev ki:List (ag)->Nat->Int×List (ag)
 | [],_=>(0,[])
 | r::T,0=>(r.getLastD 0,r.dropLast::T)
 | r::T,a+1=>(r.getD (ls r (ki T a).1) 0,r.set (ls r (ki T a).1) (ki T a).1::(ki T a).2)
abbrev pad (T:List<|ag)(n:Nat):List (ag):=T++List.replicate (n-T.length) []
def P7{r:ag}{y:Int}{p:Nat}(hp:p<r.length)(h1:∀j z,j<=p->r[j]?=some z->z<y)(h2:∀j z,p<j->r[j]?=some z->y<=z):ls r y=p:=by
 have a:¬r.findIdx (λz=>decide<|y<=z)<=p:=λc=>by
  have d:r.findIdx (λz=>decide<|y<=z)<r.length:=()
  have:=dH (xs:=r) (p:=λz=>decide<|y<=z) (w:=d);have:=h1 _ _ c<|aH d;simp at *;lia
 have b:r.findIdx (λz=>decide<|y<=z)<=p+1:=by
  rcases dI (p+1) (r.findIdx λz=>decide<|y<=z)with c|c
  ·exfalso;have d:p+1<r.length:=by have:=fL (xs:=r) (p:=λz=>decide<|y<=z);lia
   have q:=d_ (xs:=r) (p:=λz=>decide<|y<=z) (i:=p+1) c;have:=h2 (p+1) _ (bD _)<|aH d;simp at q;lia
  ·exact c
 unfold ls
 lia
def oB{r:ag}(h:vp r){i j:Nat}{x y:Int}(J:i<=j)(hx:r[i]?=some x)(hy:r[j]?=some y):x<=y:=by
 rcases Nat.lt_or_eq_of_le J with c|c
 ·obtain⟨hi,e1⟩:=aK.mp hx;obtain⟨d,e2⟩:=aK.mp hy;rw[<- e1,<- e2];exact eO.mp h i j hi d c
 ·subst c;rw[hx]at hy;cases hy;exact c6 _
theorem AQ:∀{T:List<|ag}{x:Int},(∀r∈T,vp r)->ki (put T x) (row T x)=(x,pad T (put T x).length)
 | [],x,_=>rfl
 | r::T,x,h=>by
  by_cases c:fg r x=r.length
  ·rw[kL c,p8 c];show((r++[x]).getLastD 0,(r++[x]).dropLast::T)=_;unfold pad;simp
  ·have hp:=uU c;have hy:r[fg r x]?=some (r.getD (fg r x) 0):=by rw[aI,aH hp];rfl
   have k:=zq hy;have t:=AQ (T:=T) (x:=r.getD (fg r x) 0) λq m=>h q<|aN _ m;have hr:=h r<|aM ..;rw[mz c,sO c];have e:ls (r.set (fg r x) x) (r.getD (fg r x) 0)=fg r x:=by
    refine P7 (by rw[bG];exact hp) (λj z g f=>?_) λj z g f=>?_
    ·rcases Nat.lt_or_eq_of_le g with d|d
     ·rw[bE ()]at f;have:=nO d f
      lia
     ·rw[d,bF hp]at f
      cases f;exact k
    ·rw[bE ()]at f;exact oB hr (cQ g) hy f
   show((r.set (fg r x) x).getD (ls _ (ki (put T _)<|row T _).1) 0,(r.set (fg r x) x).set (ls _ (ki (put T _)<|row T _).1) (ki (put T _)<|row T _).1::(ki (put T _)<|row T _).2)=_;rw[t];show((r.set (fg r x) x).getD (ls _<|r.getD (fg r x) 0) 0,(r.set (fg r x) x).set (ls _<|r.getD (fg r x) 0) (r.getD (fg r x) 0)::pad T _)=_;rw[e,gx];refine ig ?_ ?_
   ·show(r.set (fg r x) x).getD (fg r x) 0=x;rw[aI,bF hp];rfl
   ·show r.set (fg r x) (r.getD (fg r x) 0)::pad T _=pad (r::T) _;have:r.set (fg r x) (r.getD (fg r x) 0)=r:=by
     rw[aI,aH hp];exact fW hp
    rw[this];unfold pad;rw[bz,bz,fX];rfl
def wD{r:ag}{y z:Int}{q:Nat}(h:vp r)(J:r[q]?=some z)(L:z<y):q<=ls r y/\ls r y<r.length/\(∀j z,j<=ls r y->r[j]?=some z->z<y)/\∀j z,ls r y<j->r[j]?=some z->y<=z:=by
 have k:=(aK.mp J).1;have le:=fL (xs:=r) (p:=λz=>decide<|y<=z);have b:∀j w,j<r.findIdx (λz=>decide<|y<=z)->r[j]?=some w->w<y:=λj w f hw=>by
  have m:=d_ (xs:=r) (p:=λz=>decide<|y<=z) (i:=j) f;obtain⟨d,e⟩:=aK.mp hw;rw[e]at m;simp at m;lia
 have a:q<r.findIdx λz=>decide (y<=z):=by
  rcases dI q (r.findIdx λz=>decide<|y<=z)with c|c
  ·exact c
  ·exfalso;have d:r.findIdx (λz=>decide<|y<=z)<r.length:=()
   have m:=dH (xs:=r) (p:=λz=>decide<|y<=z) (w:=d);have:=oB h c (aH d) J;simp at m;lia
 refine⟨by unfold ls;lia,by unfold ls;lia,λj w f hw=>b j w (by unfold ls at f;lia) hw,λj w f hw=>?_⟩;have g:r.findIdx (λz=>decide<|y<=z)<=j:=by unfold ls at f;lia
 have t:=(aK.mp hw).1;have d:r.findIdx (λz=>decide<|y<=z)<r.length:=()
 have m:=dH (xs:=r) (p:=λz=>decide<|y<=z) (w:=d);have:=oB h g (aH d) hw;simp at m;lia
def Mx{r:ag}(h:∀(i j:Nat) (x y:Int),i<j->r[i]?=some x->r[j]?=some y->x<=y):vp r:=
 eO.mpr λi j hi f d=>h i j _ _ d (aH hi)<|aH f
abbrev nV (T:List<|ag)(a:Nat):Prop:=a<T.length/\∀u,T[a+1]?=some u->u.length<(T.getD a []).length
theorem wY:∀{T:List<|ag}{a:Nat},jM T->nV T a->∃T',jM T'/\(ki T a).2=pad T' T.length/\put T' (ki T a).1=T/\row T' (ki T a).1=a/\T'.length<=T.length /\
  ∃(u:ag) (q:Nat),T.head?=some u/\u[q]?=some (ki T a).1/\∀u',T'.head?=some u'->u'.length<=u.length/\(∀(j:Nat) (z:Int),q<=j->u'[j]?=some z->(ki T a).1<z)/\∀(j:Nat) (z:Int),u'[j]?=some z->∃z0,u[j]?=some z0/\z0<=z
 | [],a,_,c=>absurd c.1 (cM _)
 | r::T,0,h,c=>by
  obtain⟨h1,h2,N,F⟩:=h;have rl:0<r.length:=b6.mpr h1;have f:r[r.length-1]?=some (r.getLastD 0):=by
   rw[eS,eU];rw[aH ()];rfl
  have app:r.dropLast++[r.getLastD 0]=r:=by
   rw[eS,gc h1];exact gp h1
  have dl:r.dropLast.length=r.length-1:=eK;have L:∀j z,r.dropLast[j]?=some z->j<r.length-1/\r[j]?=some z:=λj z d=>by
   have C:=(aK.mp d).1;refine⟨(),?_⟩;rw[<- app,aS C];exact d
  show ∃T',jM T'/\r.dropLast::T=pad T' (T.length+1)/\put T' (r.getLastD 0)=r::T/\row T' (r.getLastD 0)=0/\T'.length<=T.length+1/\∃(u:ag) (q:Nat),some r=some u/\u[q]?=some (r.getLastD 0)/\_;by_cases e:r.dropLast=[]
  ·have rl1:r.length=1:=by rw[e]at dl;simp at dl;lia
   have eT:T=[]:=by
    cases T with
    | nil=>rfl
    | cons u U=>
     have:=c.2 u rfl;have nz:=b6.mpr F.1;simp at this
     lia
   subst eT;refine⟨[],trivial,by rw[e];rfl,?_,rfl,bN _,r,r.length-1,rfl,f,λu' k=>by cases k⟩;show[[r.getLastD 0]]=[r];rw[e]at app;rw[<- app];rfl
  ·have fl:fg r.dropLast (r.getLastD 0)=r.dropLast.length:=by
    rcases dI (fg r.dropLast<|r.getLastD 0) r.dropLast.length with z|z
    ·exfalso;have g:=aH z;have g1:=zq g;have g2:=L _ _ g;have:=oB h2 (cQ g2.1) g2.2 f
     lia
    ·exact dw (Bg _ _) z
   refine⟨r.dropLast::T,⟨e,h2.sublist<|List.dropLast_sublist _,λu k=>⟨?_,λj x y hx hy=>(N u k).2 j x y (L j x hx).2 hy⟩,F⟩,?_,?_,p8 fl,aP _,r,r.length-1,rfl,f,λu' k=>?_⟩
   ·have:=c.2 u (by rw[dY,<- fO];exact k);simp at this
    lia
   ·unfold pad;simp
   ·rw[kL fl,app]
   ·cases k
    exact⟨(),λj z C d=>absurd (L j z d).1 (),λj z d=>⟨z,(L j z d).2,c6 _⟩⟩
 | r::T,a+1,h,c=>by
  obtain⟨h1,h2,N,F⟩:=h;have c':nV T a:=⟨by have:=c.1;simp at this;lia,λu k=>by have:=c.2 u (by rw[dY];exact k);simpa using this⟩;obtain⟨T',t1,t2,t3,t4,t5,u,q,k,V,hh⟩:=wY F c';generalize hy:(ki T a).1=y at *
  have J:=N u k;have ql:=(aK.mp V).1;have qr:q<r.length:=by have:=J.1;lia
  have Z:r[q]?=some r[q]:=aH qr;obtain⟨s1,M,W,Y⟩:=wD h2 Z<|J.2 q _ _ Z V;generalize hP:ls r y=P at *
  have K:r[P]?=some (r.getD P 0):=by rw[aI,aH M];rfl
  generalize hx:r.getD P 0=x at *
  have xy:=W P x (aP _) K;have t:(r.set P y)[P]?=some y:=bF M;have B:∀j,j≠P->(r.set P y)[j]?=r[j]?:=λj C=>bE<|b_ C;have G:fg (r.set P y) x=P:=by
   have l1:=Fp t xy
   rcases dI (fg (r.set P y) x) P with z|z
   ·exfalso;have hl:fg (r.set P y) x<(r.set P y).length:=by rw[bG];lia
    have g:=aH hl;have g1:=zq g;rw[B _ ()]at g;have:=oB h2 (cQ z) g K
    lia
   ·lia
  have tk:ki (r::T) (a+1)=(x,r.set P y::(ki T a).2):=by
   show(r.getD (ls r (ki T a).1) 0,r.set (ls r (ki T a).1) (ki T a).1::(ki T a).2)=_;rw[hy,hP,hx]
  rw[tk];refine⟨r.set P y::T',⟨λz=>h1<|dW.mp<|by rw[<- bG (i:=P) (a:=y),z];rfl,Mx λi j v w O hv hw=>?_,λu' m=>⟨?_,λj v w hv hw=>?_⟩,t1⟩,?_,?_,?_,by simpa using t5,r,P,rfl,K,λu' m=>?_⟩
  ·by_cases e1:i=P
   ·rw[e1,t]at hv;cases hv;rw[B j ()]at hw;exact Y j w () hw
   ·rw[B i e1]at hv;by_cases e2:j=P
    ·rw[e2,t]at hw;cases hw;have:=W i v () hv
     lia
    ·rw[B j e2]at hw;exact oB h2 (cQ O) hv hw
  ·have:=(hh u' m).1;have:=J.1;rw[bG];lia
  ·obtain⟨_,k2,k3⟩:=hh u' m;by_cases e1:j=P
   ·rw[e1,t]at hv;cases hv;exact k2 j w () hw
   ·rw[B j e1]at hv;obtain⟨z0,g1,g2⟩:=k3 j w hw;have:=J.2 j v z0 hv g1
    lia
  ·show r.set P y::(ki T a).2=_;rw[t2];unfold pad;rw[bz,bz,fX];rfl
  ·show put (r.set P y::T') x=r::T;rw[mz<|by rw[G,bG];lia,G,gx];have g:(r.set P y).getD P 0=y:=by rw[aI,t];rfl
   rw[g,t3,<- hx];congr 1;rw[aI,aH M];exact fW M
  ·show row (r.set P y::T') x=a+1;rw[sO<|by rw[G,bG];lia,G];have g:(r.set P y).getD P 0=y:=by rw[aI,t];rfl
   rw[g,t4]
  ·cases m
   refine⟨by rw[bG];exact aP _,λj z C d=>?_,λj z d=>?_⟩
   ·by_cases e1:j=P
    ·rw[e1,t]at d;cases d;exact xy
    ·rw[B j e1]at d;have:=Y j z () d
     lia
   ·by_cases e1:j=P
    ·rw[e1,t]at d;cases d;exact⟨x,by rw[e1];exact K,()⟩
    ·rw[B j e1]at d;exact⟨z,d,c6 _⟩
end Sy
namespace Sy
open Tb
abbrev wh (Q:List<|ag)(k:Int):Nat:=Q.findIdx λq=>decide<|k∈q
def l5(q:ag)(Q:List<|ag)(k:Int):wh (q::Q) k=if k∈q then 0 else wh Q k+1:=by
 unfold wh;rw[gO];by_cases c:k∈q
 ·rw[aR c,bu c];rfl
 ·rw[aU c,bw c];rfl
theorem Cy:∀{Q:List<|ag}{i:Nat}{m:Int},(∀q∈Q,m∉q)->i<=Q.length->wh (add Q i m) m=i
 | [],i,m,_,h=>by
  have:i=0:=by simpa using h
  subst this;show wh [[m]] m=0;rw[l5,aR<|br.mpr rfl]
 | q::Q,0,m,h,_=>by
  show wh ((q++[m])::Q) m=0;rw[l5,aR<|by simp]
 | q::Q,i+1,m,h,hl=>by
  show wh (q::add Q i m) m=_;rw[l5,aU<|h q<|aM ..,Cy (λp hp=>h p<|aN _ hp)<|by simpa using hl]
theorem Gp:∀{Q:List<|ag}{i:Nat}{k m:Int},k≠m->(∃q∈Q,k∈q)->wh (add Q i m) k=wh Q k
 | [],i,k,m,_,h=>by obtain⟨q,f,_⟩:=h;cases f
 | q::Q,0,k,m,hn,h=>by
  show wh ((q++[m])::Q) k=_;rw[l5,l5];have:k∈q++[m] ↔ k∈q:=by simp[hn]
  by_cases c:k∈q
  ·rw[aR<|this.mpr c,aR c]
  ·rw[aU λz=>c<|this.mp z,aU c]
 | q::Q,i+1,k,m,hn,h=>by
  show wh (q::add Q i m) k=_;rw[l5,l5];by_cases c:k∈q
  ·rw[aR c,aR c]
  ·rw[aU c,aU c,Gp hn];obtain⟨p,hp,d⟩:=h
   rcases a_.mp hp with e|e
   ·rw[e]at d;exact absurd d c
   ·exact⟨p,e,d⟩
theorem ue:∀{Q:List<|ag}{i:Nat}{m k:Int},(∃q∈add Q i m,k∈q) ↔ (k=m\/∃q∈Q,k∈q)
 | [],i,m,k=>by show(∃q∈[[m]],k∈q) ↔ _;simp
 | q::Q,0,m,k=>by
  show(∃p∈(q++[m])::Q,k∈p) ↔ _;dsimp[a_,exists_eq_or_imp,bA,br];constructor
  ·rintro((h|h)|h)
   ·exact .inr (.inl h)
   ·rcases h with h|h
    ·exact .inl h
    ·cases h
   ·exact .inr<|.inr h
  ·rintro(h|h|h)
   ·exact .inl (.inr<|.inl h)
   ·exact .inl (.inl h)
   ·exact .inr h
 | q::Q,i+1,m,k=>by
  show(∃p∈q::add Q i m,k∈p) ↔ _;dsimp[a_,exists_eq_or_imp];rw[ue (Q:=Q)];constructor
  ·rintro(h|h|h)
   ·exact .inr (.inl h)
   ·exact .inl h
   ·exact .inr<|.inr h
  ·rintro(h|h|h)
   ·exact .inr (.inl h)
   ·exact .inl h
   ·exact .inr<|.inr h
theorem uw:∀(T:List<|ag) (x:Int),row T x<(put T x).length/\row T x<=T.length
 | [],x=>⟨bD _,aP _⟩
 | r::T,x=>by
  by_cases c:fg r x=r.length
  ·rw[kL c,p8 c];exact⟨Nat.succ_pos _,bN _⟩
  ·rw[mz c,sO c];have:=uw T<|r.getD (fg r x) 0;exact⟨f6 this.1,dX this.2⟩
def rJ(r:ag)(T:List<|ag)(m:Nat):pad (r::T) (m+1)=r::pad T m:=by
 unfold pad;rw[bz,fX];rfl
theorem t8:∀{T:List<|ag}{a m:Nat},a<T.length->T.length<=m->ki (pad T m) a=((ki T a).1,pad (ki T a).2 m)
 | [],a,m,h,_=>absurd h (cM _)
 | r::T,0,m,_,hm=>by
  obtain⟨m,rfl⟩:∃k,m=k+1:=⟨m-1,by simp at hm;lia⟩;rw[rJ];show(r.getLastD 0,r.dropLast::pad T m)=(r.getLastD 0,pad (r.dropLast::T)<|m+1);rw[rJ]
 | r::T,a+1,m,h,hm=>by
  obtain⟨m,rfl⟩:∃k,m=k+1:=⟨m-1,by simp at hm;lia⟩;rw[rJ];show(r.getD (ls r (ki (pad T m) a).1) 0,r.set (ls r (ki (pad T m) a).1) (ki (pad T m) a).1::(ki (pad T m) a).2)=(r.getD (ls r (ki T a).1) 0,pad (r.set (ls r (ki T a).1) (ki T a).1::(ki T a).2)<|m+1);rw[t8 (by simpa using h)<|by simpa using hm,rJ]
def A6{T:List<|ag}(h:T.length<=l)(hm:l<=m):pad (pad T l) m=pad T m:=by
 unfold pad;rw[bg,List.replicate_append_replicate,aY,fQ];congr 2
 lia
abbrev Lu (j:Nat->Nat):Nat->List (ag)->ag
 | 0,_=>[]
 | k+1,P=>Lu j k (ki P<|j<|k+1).2++[(ki P<|j<|k+1).1]
theorem rQ:∀{T:List<|ag},jM T->∀r∈T,vp r
 | [],_,r,h=>nomatch h
 | q::T,⟨_,h2,_,h4⟩,r,h=>by
  rcases a_.mp h with e|e
  ·rw[e];exact h2
  ·exact rQ h4 r e
def sQ(xs:ag){n:Nat}(h:n<=xs.length):jM (tabs xs n).1:=by
 rw[l_ xs n h];exact se _ trivial
def JE(T:List<|ag)(x:Int):T.length<=(put T x).length:=by
 have:=cj List.length<|l8 T x;rw[aL]at this;rw[this];have:∀(l:am) (i:Nat),l.length<=(bump l i).length:=λl=>by
  induction l with
  | nil=>intro i;exact bN _
  | cons n l d=>
   intro i
   cases i with
   | zero=>exact aP _
   | succ i=>exact dX<|d i
 have:=this (T.map List.length)<|row T x;rw[aL]at this;exact this
theorem yL(xs:ag)(J:Nat->Nat):∀(n:Nat),n<=xs.length->∀(m:Nat),(∀k,k<n->J (k+1)=row (tabs xs k).1 (xs.getD k 0))->(tabs xs n).1.length<=m->Lu J n (pad (tabs xs n).1 m)=xs.take n
 | 0,_,_,_,_=>rfl
 | n+1,h,m,hr,hm=>by
  have f:=sQ xs (n:=n) ();have e:(tabs xs<|n+1).1=put (tabs xs n).1 (xs.getD n 0):=rfl;rw[e]at hm ⊢;have d:=JE (tabs xs n).1<|xs.getD n 0;have k:ki (pad (put (tabs xs n).1<|xs.getD n 0) m) (J<|n+1)=(xs.getD n 0,pad (tabs xs n).1 m):=by
   rw[hr n<|bD _,t8 (uw _ _).1 hm,AQ<|rQ f];show(_,pad (pad _ _) m)=_;rw[A6 d hm]
  show Lu J n (ki _<|J<|n+1).2++[(ki _<|J<|n+1).1]=_;rw[k];show Lu J n (pad (tabs xs n).1 m)++[xs.getD n 0]=_;rw[yL xs J n () m (λj g=>hr j ()) (),List.take_succ,aI,aH ()];rfl
theorem wR(xs:ag):∀(n:Nat),(∀q∈(tabs xs n).2,∀k∈q,1<=k/\k<=n)/\(∀k:Nat,k<n->∃q∈(tabs xs n).2,((k:Int)+1)∈q)/\∀k:Nat,k<n->wh (tabs xs n).2 ((k:Int)+1)=row (tabs xs k).1 (xs.getD k 0)
 | 0=>⟨(λq g=>nomatch g),λk f=>absurd f<|cM _,λk f=>absurd f<|cM _⟩
 | n+1=>by
  obtain⟨a,b,c⟩:=wR xs n;have e:(tabs xs<|n+1).2=add (tabs xs n).2 (row (tabs xs n).1<|xs.getD n 0) ((n:Int)+1):=rfl;rw[e];refine⟨λq g k f=>?_,λk f=>?_,λk f=>?_⟩
  ·rcases ue.mp ⟨q,g,f⟩with z|⟨p,hp,z⟩
   ·lia
   ·have:=a p hp k z;lia
  ·by_cases d:k=n
   ·subst d;exact ue.mpr (.inl rfl)
   ·exact ue.mpr<|.inr<|b k ()
  ·by_cases d:k=n
   ·subst d;refine Cy (λq g z=>?_) ?_
    ·have:=a q g _ z;lia
    ·have l:=cj List.length<|jC xs k;rw[aL,aL]at l;rw[l];exact(uw _ _).2
   ·rw[Gp ()<|b k (),c k ()]
end Sy
namespace Sy
open Tb
theorem CK:∀{Q:List<|ag}{m:Int},jM Q->(∀q∈Q,∀k∈q,k<=m)->(∃q∈Q,m∈q)->∃Q',Q=add Q' (wh Q m) m/\jM Q'/\wh Q m<=Q'.length/\nV Q (wh Q m)/\Q.flatten.Perm (m::Q'.flatten) /\
  ∀u',Q'.head?=some u'->∃u,Q.head?=some u/\u' <+: u
 | [],m,_,_,h=>by obtain⟨q,P,_⟩:=h;cases P
 | q::Q,m,⟨h1,h2,h3,h4⟩,hm,hx=>by
  rw[l5];by_cases c:m∈q
  ·rw[aR c];have ql:0<q.length:=b6.mpr h1;have t:q[q.length-1]?=some m:=by
    obtain⟨i,hi,e⟩:=List.getElem_of_mem c;have a:=oB h2 (i:=i) (j:=q.length-1) () (aH hi)<|aH ();have b:=hm q (aM ..) _ (cO<|show q.length-1<q.length by lia);rw[aH ()];rw[e]at a;congr 1;lia
   have app:q.dropLast++[m]=q:=by
    have:=gp h1;have e:q.getLast h1=m:=by
     have:=eU (l:=q);rw[t,gc h1]at this;exact aV this
    rw[e]at this;exact this
   have dl:q.dropLast.length=q.length-1:=eK;have f:∀u,Q.head?=some u->u.length<q.length:=λu d=>by
    have F:=h3 u d
    rcases dI u.length q.length with z|z
    ·exact z
    ·exfalso;have N:q.length-1<u.length:=()
     have:=F.2 (q.length-1) _ _ t<|aH N;have J:u∈Q:=List.mem_of_mem_head? (by rw[d];rfl);have:=hm u (aN _ J) _ (cO N)
     lia
   have B:nV (q::Q) 0:=⟨Nat.succ_pos _,λu d=>by
    rw[dY,<- fO]at d;have:=f u d;simpa using this⟩
   by_cases e:q.dropLast=[]
   ·have W:Q=[]:=by
     cases Q with
     | nil=>rfl
     | cons u U=>
      have a:=f u rfl;have:=b6.mpr h4.1;rw[e]at dl;simp at dl
      lia
    subst W;rw[e]at app;refine⟨[],?_,trivial,aP _,B,?_,λu' d=>by cases d⟩
    ·rw[<- app];rfl
    ·rw[<- app];exact dU _
   ·refine⟨q.dropLast::Q,?_,⟨e,h2.sublist<|List.dropLast_sublist _,λu d=>⟨?_,λj x y g hy=>?_⟩,h4⟩,bN _,B,?_,λu' d=>?_⟩
    ·show q::Q=(q.dropLast++[m])::Q;rw[app]
    ·have:=f u d;lia
    ·have O:=(aK.mp g).1;refine(h3 u d).2 j x y ?_ hy;rw[<- app,aS O];exact g
    ·show(q++Q.flatten).Perm (m::(q.dropLast++Q.flatten))
     conv=>lhs;rw[<- app]
     rw[bg];exact cP
    ·cases d
     exact⟨q,rfl,List.dropLast_prefix _⟩
  ·rw[aU c];have g:∃p∈Q,m∈p:=by
    obtain⟨p,hp,G⟩:=hx
    rcases a_.mp hp with e|e
    ·rw[e]at G;exact absurd G c
    ·exact⟨p,e,G⟩
   obtain⟨Q',t1,t2,Z,M,V,Y⟩:=CK h4 (λp hp=>hm p<|aN _ hp) g;refine⟨q::Q',cj (q::·) t1,⟨h1,h2,λu' d=>?_,t2⟩,by simpa using Z,⟨f6 M.1,λu d=>?_⟩,?_,λu' d=>⟨q,rfl,by cases d;exact cI _⟩⟩
   ·obtain⟨u,L,C⟩:=Y u' d;have F:=h3 u L;refine⟨bH C.length_le F.1,λj x y K hy=>F.2 j x y K ?_⟩;obtain⟨w,rfl⟩:=C;rw[aS (aK.mp hy).1];exact hy
   ·rw[dY]at d;have:=M.2 u d;simpa using this
   ·show(q++Q.flatten).Perm (m::(q++Q'.flatten));exact((List.Perm.append_left q V).trans cP)
theorem yD:∀{l l':am}{a:Nat},(∀k∈l,0<k)->(∀k∈l',0<k)->a<=l.length->a<=l'.length->bump l a=bump l' a->l=l'
 | [],[],_,_,_,_,_,_=>rfl
 | [],n::l',a,_,h',ha,_,e=>by
  have:a=0:=by simpa using ha
  subst this;have e:[1]=(n+1)::l':=e;have:=h' n (aM ..)
  injection e with e1 e2
  lia
 | n::l,[],a,h,_,_,ha,e=>by
  have:a=0:=by simpa using ha
  subst this;have e:(n+1)::l=[1]:=e;have:=h n (aM ..)
  injection e with e1 e2
  lia
 | n::l,k::l',0,_,_,_,_,e=>by
  have e:(n+1)::l=(k+1)::l':=e
  injection e with e1 e2
  rw[e2,show n=k by lia]
 | n::l,k::l',a+1,h,h',ha,ha',e=>by
  have e:n::bump l a=k::bump l' a:=e
  injection e with e1 e2
  rw[e1,yD (λz d=>h z<|aN _ d) (λz d=>h' z<|aN _ d) (by simpa using ha) (by simpa using ha') e2]
theorem qY:∀{T:List<|ag},jM T->∀k∈T.map List.length,0<k
 | [],_,k,h=>nomatch h
 | q::T,⟨h1,_,_,h4⟩,k,h=>by
  rcases a_.mp h with e|e
  ·rw[e];exact b6.mpr h1
  ·exact qY h4 k e
end Sy
namespace K63
open PySem L2 Am
def Mc{r:Nat}{R:ag}{y z:Int}{q:Nat}(h:iw S r=some (R.map .int))(M:R.length<=1000)(hI:Sy.vp R)(J:R[q]?=some z)(L:z<y):jU [.ref r,.int y] S=.ok (.int (Sy.ls R y:Nat)) S:=by
 obtain⟨B,m,f,j⟩:=Sy.wD hI J L;unfold jU mS mj;dsimp[iX,bools,l7,Nat.reduceAdd,Nat.reduceSub,h,aL];refine pK (λτ d=>d=S/\∃p:Nat,Sy.ls R y<=p/\p<R.length/\τ=[.ref r,.int y,.int (p:Int)])
  (λτ _=>match τ with
   | [_,_,.int i]=>i.toNat
   | _=>0)
  (λt=>RS.end (RS.seq t _)=.ok (.int (Sy.ls R y:Nat)) S) ?_ 1000000 _ _ ⟨rfl,R.length-1,(),(),cj (λz=>[A.ref r,A.int y,A.int z]) ()⟩ ?_
 ·rintro τ d ⟨rfl,p,p1,p2,rfl⟩;have g:oM (R.map A.int) (p:Int)=some (.int R[p]):=t7 (k:=p) rfl<|aH p2;unfold nP nL;dsimp[iX,bools,h,g];by_cases c:p=Sy.ls R y
  ·left;have:=f p _ ()<|aH p2;refine⟨d,by rw[bw ()],?_⟩;dsimp[iX,bools,c]
  ·right;have:=j p _ ()<|aH p2;refine⟨d,by rw[bu ()],.inl ⟨_,_,rfl,⟨rfl,p-1,(),(),cj (λz=>[A.ref r,A.int y,A.int z]) ()⟩,?_⟩⟩;show((p:Int)-1).toNat<(p:Int).toNat
   lia
 ·show((R.length:Int)-1).toNat<1000000
  lia
end K63
namespace K63
open PySem L2 Am
def EA{lo hi:Int}{c:Sm}{src:Ic}{τ:ae}(hs:src τ S=.ok (wj lo hi) S1)(Inv:Nat->ae->iC->Prop)(J:RS->Prop)(h0:Inv 0 τ S1)
  (step:∀(i:Nat) τ S,i<(lo-hi).toNat->Inv i τ S->(∃τ' S',c (τ.set j<|.int<|lo-i) S=.nx τ' S'/\Inv (i+1) τ' S')\/(∃a S',c (τ.set j<|.int<|lo-i) S=.rt a S'/\J (.rt a S')))
  (L:∀τ S,Inv (lo-hi).toNat τ S->J (.nx τ S)):J (mW src (i_ j) c τ S):=by
 unfold mW;rw[hs];refine rY (s:=wj lo hi) Inv J (λi τ S d h=>?_) (λτ S h=>⟨rfl,L τ S h⟩) _ 0 τ S1 rfl h0;have d:i<(lo-hi).toNat:=d;exact⟨.int<|lo-i,_,S,aR d,rfl,step i τ S d h⟩
open Sy (ki ls vp)
abbrev Sv (U:List<|ag)(a:Nat):Prop:=a<U.length/\U.getD a []≠[]/\∀j,j<a->vp (U.getD j [])/\∃(q:Nat) (z:Int),(U.getD j [])[q]?=some z/\z<(ki (U.drop<|j+1)<|a-j-1).1
def kE{U:List<|ag}(h:j<U.length):U.drop j=U.getD j []::U.drop (j+1):=by
 rw[aI,aH h];exact bV h
def BA{U:List<|ag}{r:ag}(h:j<U.length)(e:U.getD j []=r):(U.take (j+1)++W).set j r'=U.take j++r'::W:=by
 rw[List.take_succ,aH h];show(U.take j++[U[j]]++W).set j r'=_;rw[bg,cN _ _<|by rw[b8];lia,b8,Nat.min_eq_left (),bW];rfl
def HZ{U:List<|ag}{k:Nat}(h:j<k)(J:k<=U.length):(U.take k++W).getD j []=U.getD j []:=by
 rw[aI,aS<|by rw[b8];lia,e_ h,<- aI]
def Jf{n a:Nat}{rs:am}{U:List<|ag}(h:Tab S n rs U)(ok:Sv U a)(hl:U.length<=1000)(hr:∀i,(U.getD i []).length<=1000) :
  ∃S',mE [.ref n,.int (a:Int)] S=.ok (.int (ki U a).1) S'/\Tab S' n rs (ki U a).2/\Kp (·∈rs) S S':=by
 obtain⟨g,o2,o3⟩:=ok;have len:=h.len;have d:∀j,j<U.length->rs[j]?=some (rs.getD j 0):=λj m=>by rw[aI,aH ()];rfl
 have f:∀j,j<U.length->rs.getD j 0∈rs:=λj m=>bx<|d j m;have top:∀j,j<U.length->oM (rs.map A.ref) (j:Int)=some (.ref<|rs.getD j 0):=λj m=>n9 (k:=j) rfl (by rw[aX,d j m];rfl);have P:=(h.rows.get<|d a g).2;have l0:0<(U.getD a []).length:=b6.mpr o2;have B:Ni (.ref<|rs.getD a 0) [] S=.ok (.int<|(U.getD a []).getLastD 0) (S.set (rs.getD a 0)<|.lst<|(U.getD a []).dropLast.map .int):=by
  show opt (iw S<|rs.getD a 0) _=_;rw[P,iP];show opt (((U.getD a []).map A.int)[((U.getD a []).map A.int).length-1]?) _=_;rw[aL,aX,aH ()];show R.ok (A.int _) (S.set _<|.lst ((U.getD a []).map A.int).dropLast)=_;rw[<- List.map_dropLast,eS,eU,aH ()];rfl
 have t0:=h.set (ys:=(U.getD a []).dropLast)<|d a g;have e0:U.set a (U.getD a []).dropLast=U.take a++(ki (U.drop a)<|a-a).2:=by
  have:=BA (U:=U) (W:=U.drop<|a+1) (r':=(U.getD a []).dropLast) g rfl;rw[dh]at this;rw[this,kE g,bW];rfl
 rw[e0]at t0;have M:Kp (·∈rs) S (S.set (rs.getD a 0)<|.lst<|(U.getD a []).dropLast.map .int):=Kp.refl.set<|.inl<|f a g;have Y:(U.getD a []).getLastD 0=(ki (U.drop a)<|a-a).1:=by rw[kE g,bW];rfl
 obtain⟨C,L⟩:∃C,C=S.set (rs.getD a 0) (.lst<|(U.getD a []).dropLast.map .int):=⟨_,rfl⟩;rw[<- L]at B t0 M;unfold mE qw qE;dsimp[iX,bools,l7,Nat.reduceAdd,Nat.reduceSub,h.top,top a g,B,P,Y];refine EA (lo:=(a:Int)-1) (hi:=-1) (S1:=C) (show rF _ _=_ from yz (S1:=C) (S2:=C) (by dsimp[iX,bools]) (by dsimp[iX,bools]) (by dsimp[iX,bools]) (mU () ())<|mU ⋯ ⋯)
  (λi τ S'=>(∃J K,τ=[.ref n,.int (a:Int),.int (ki (U.drop<|a-i) i).1,J,K])/\Tab S' n rs (U.take (a-i)++(ki (U.drop<|a-i) i).2)/\Kp (·∈rs) S S')
  (λr=>∃S',RS.end (RS.seq r _)=.ok (.int (ki U a).1) S'/\Tab S' n rs (ki U a).2/\Kp (·∈rs) S S') ⟨⟨_,_,by rw[bW];rfl⟩,by rw[bW]at t0;exact t0,M⟩ ?_ ?_
 ·rintro i τ S1 hi ⟨⟨J,K,rfl⟩,t1,k1⟩;left;obtain⟨j,m⟩:∃j,a-i=j+1:=⟨a-i-1,()⟩;have V:a-(i+1)=j:=()
  have t:j<U.length:=()
  rw[m]at t1 ⊢;obtain⟨c1,q,z,c2,G⟩:=o3 j ();rw[show a-j-1=i by lia]at G;have g1:=(t1.rows.get<|d j t).2;rw[HZ (bD _) ()]at g1;have lk:=Mc (S:=S1) g1 (hr j) c1 c2 G;obtain⟨_,O,_,_⟩:=Sy.wD c1 c2 G;have F:=z9 (r:=U.getD j []) (i:=(ls (U.getD j []) (ki (U.drop<|j+1) i).1:Nat)) rfl O;have t2:=t1.set (ys:=(U.getD j []).set (ls (U.getD j []) (ki (U.drop<|j+1) i).1) (ki (U.drop<|j+1) i).1)<|d j t;rw[BA t rfl]at t2;have Z:zD (U.getD j []).length ((ls (U.getD j []) (ki (U.drop<|j+1) i).1:Nat):Int)=some (ls (U.getD j []) (ki (U.drop<|j+1) i).1):=xo rfl O;unfold rz;rw[show(a:Int)-1-(i:Int)=(j:Int)by lia];dsimp[iX,bools,t1.top,top j t,lk,g1,F,qL<|show([_,_]:ae).length<=16777216 by simp,jZ<|show([_,_]:ae).length=2 from rfl,aL,Z,<- map_set];rw[V,kE t];exact⟨_,_,rfl,⟨_,_,rfl⟩,t2,k1.set<|.inl<|f j t⟩
 ·rintro τ S1 ⟨⟨J,K,rfl⟩,t1,k1⟩;have N:(((a:Int)-1)-(-1)).toNat=a:=()
  rw[N,bW,cV]at t1;refine⟨S1,?_,by simpa using t1,k1⟩;rw[N,bW,cV];dsimp[iX,bools]
end K63
namespace K63
open PySem L2 Am
theorem nR:∀{T:List<|ag}(k:Nat),Sy.jM T->Sy.jM (T.drop k)
 | [],k,_=>by rw[List.drop_nil];trivial
 | r::T,0,h=>h
 | r::T,k+1,h=>nR k h.2.2.2
def B_{T:List<|ag}(h:Sy.jM T)(J:j<T.length)(L:(T.drop<|j+1).head?=some u):Sy.Fits u (T.getD j []):=by
 have:=nR j h;rw[kE J]at this;exact this.2.2.1 u L
def B5{T:List<|ag}(h:j<T.length):(Sy.pad T m).getD j []=T.getD j []:=by
 unfold Sy.pad;rw[aI,aS h,<- aI]
def F8{T:List<|ag}{k:Nat}(h:k<=T.length):(Sy.pad T m).drop k=Sy.pad (T.drop k) (m-k):=by
 unfold Sy.pad;rw[List.drop_append_of_le_length h,dO];congr 2
 lia
def MW{T:List<|ag}{a:Nat}(h:Sy.jM T)(c:Sy.nV T a)(hm:T.length<=m):Sv (Sy.pad T m) a:=by
 have hg:∀j,j<T.length->T.getD j []∈T:=λj f=>by
  rw[aI,aH f];exact cO f
 refine⟨by unfold Sy.pad;rw[aY];have:=c.1;lia,?_,λj f=>?_⟩
 ·rw[B5 c.1];have:=nR a h;rw[kE c.1]at this;exact this.1
 ·have g:j<T.length:=by have:=c.1;lia
  have C:=c.1;rw[B5 g,F8 ()];refine⟨Sy.rQ h _<|hg j g,?_⟩;have z:Sy.nV (T.drop<|j+1) (a-j-1):=by
   refine⟨by rw[dO];lia,λu d=>?_⟩;rw[gD,show j+1+(a-j-1+1)=a+1 by lia]at d;have:=c.2 u d;rw[aI,gD,show j+1+(a-j-1)=a by lia,<- aI];exact this
  rw[Sy.t8 z.1<|by rw[dO];lia];obtain⟨_,_,_,_,_,_,u,q,d,k,_⟩:=Sy.wY (nR (j+1) h) z;have B:=B_ h g d;have F:=(aK.mp k).1;have t:q<(T.getD j []).length:=by have:=B.1;lia
  exact⟨q,_,aH t,B.2 q _ _ (aH t) k⟩
end K63
namespace K63
open PySem L2 Am
def RW{f g:A->A->iC->R A}{ca cb cc:Ex}{a:A}(h1:ca τ S=.ok a S)(h2:cb τ S=.ok b S)(j:f a b S=.ok (.bl true) S)(J:cc τ S=.ok c S):O8 f g ca cb cc τ S=g b c S:=by
 unfold O8;rw[h1,R.jK,h2,R.jK,j,R.jK];unfold SI;show(cc τ S).bind _=_;rw[J];rfl
def Dw{x:Int}(h1:1<=x)(h2:x<=1000000000):kr [.int x] S=.ok (.bl true) S:=by
 have e:mK [.int x] S=.ok (.bl true) S:=by
  unfold mK qJ qo;dsimp[iX,bools,l7,Nat.reduceAdd,Nat.reduceSub,show yC .int "int" = some true from rfl,show yC .int "bool" = some false from rfl,Bool.not_false]
 unfold kr pD oZ;dsimp[iX,Qf,bools,l7,Nat.reduceAdd,Nat.reduceSub,e,RW (f:=xQ) (g:=xQ) (ca:=eC<|.int 1) (cb:=iu 0) (cc:=eC<|.int 1000000000) (τ:=[.int x]) (S:=S) (a:=.int 1) (b:=.int x) (c:=.int 1000000000) rfl (by dsimp[iX]) (by dsimp[iX,bools,bu h1]) rfl,bu h2]
def all_true{S:iC}{α:Type}(l:List α):Ed (.ref S.length) (S++[O.lst<|(l.map λ_=>true).map A.bl])=.ok (.bl true) (S++[O.lst<|(l.map λ_=>true).map A.bl]):=by
 show opt (iw _ S.length) _=_;rw[iR,iP,BZ,iP];congr 2;simp
def wV{r:Nat}{R:ag}(h:iw S r=some (R.map .int))(j:R.length<=1000)(hb:∀x∈R,1<=x/\x<=1000000000):∃S',kG [.ref r] S=.ok (.bl true) S'/\mR S S':=by
 have d:=uK (cap:=[]) (t:=jF) (e:=eFn kr<|iy (iu 0) iJ) (τ:=[.ref r]) (src:=jX<|iu 0) (kX (by dsimp[iX,bools]) h) h (λ_=>true) (λ_=>.bl true)
  (λx hx=>by dsimp[iX,bools]) (λx hx _=>by
   obtain⟨v,hv,rfl⟩:=bK.mp hx;dsimp[iX,bools,Dw (hb v hv).1 (hb v hv).2]) (by rw[aL];lia)
 have f:((R.map A.int).filter λ_=>true).map (λ_=>A.bl true)=(R.map λ_=>true).map A.bl:=by
  rw[cL.mpr λ_ _=>rfl,bL,bL];rfl
 rw[f]at d;unfold kG ou oG;dsimp[iX,bools,l7,Nat.reduceAdd,Nat.reduceSub,h,map_some,show yC .lst "list" = some true from rfl,d,all_true];exact⟨_,rfl,Kp.refl.lay⟩
def Eh{R:ag}(h:Sy.vp R):sortI R=R:=(sortI_perm R).eq_of_pairwise (λ_ _ _ _ a b=>gk a b) (rK R) h
def Kf{r:Nat}{R:ag}(h:iw S r=some (R.map .int))(j:R.length<64)(hb:∀x∈R,1<=x/\x<=1000000000)(hn:R≠[])(hI:Sy.vp R):∃S',jt [.ref r] S=.ok (.bl true) S'/\mR S S':=by
 obtain⟨S1,e1,k1⟩:=wV h () hb;have h1:=k1.lst _ _ (λz=>z) h;have es:uT (.ref r) S1=.ok (.ref S1.length) (S1++[.lst<|R.map .int]):=by
  show opt (iw S1 r) _=_;rw[h1,iP];rw[ints_map,iP,jZ j,Eh hI]
 have h2:iw (S1++[O.lst<|R.map .int]) r=some (R.map .int):=k_ h1;have d:=Aw<|yM (a:=r) (b:=S1.length) h2 iR;rw[bu rfl]at d;have f:(0:Int)<(R.length:Int):=by have:=b6.mpr hn;lia
 unfold jt mq mT;dsimp[iX,Qf,bools,l7,Nat.reduceAdd,Nat.reduceSub,e1,h1,aL,bu f,es,d];exact⟨_,rfl,k1.lay⟩
end K63
namespace K63
open PySem L2 Am
def Kx{r q:Nat}{R U:ag}(hr:iw S r=some (R.map .int))(J:iw S q=some (U.map .int))(M:R.length<=1000)(L:Sy.Fits U R):∃S',jI [.ref q,.ref r] S=.ok (.bl true) S'/\mR S S':=by
 have C:=L.1;have d:v5 (iu 1) (iu 0) [.ref q,.ref r] S=.ok (vQ r q<|min (R.map A.int).length (U.map A.int).length) S:=IM (S1:=S) (by dsimp[iX,bools]) (by dsimp[iX,bools]) hr J;have k:min (R.map A.int).length (U.map A.int).length=U.length:=by rw[aL,aL];lia
 rw[k]at d;obtain⟨S',g1,g2⟩:=nZ (s:=vQ r q U.length) (g:=zH 2<|s_ (i_ 0)<|s_ (i_ 1) B3) (t:=jF) (e:=iL Ei (iu 0)<|iu 1)
  (P:=λS1=>S1=S) (T:=λf=>∃y z,f=[y,z])
  (λi=>.tup [.int<|R.getD i 0,.int<|U.getD i 0]) (λ_=>true) (λ_=>.bl true)
  (λi S1 hi e=>by
   subst e;have hi:i<U.length:=hi;show(iw S1 r).bind _=_;rw[hr];show(iw S1 q).bind _=_;rw[J];show((R.map A.int)[i]?).bind _=_;rw[aX,aH (),aX,aH hi,aI,aH (),aI,aH hi];rfl)
  (λS1 e=>by
   subst e;show(match iw S1 r,iw S1 q with|some xs,some ys=>_|_,_=>_)=true;rw[hr,J];simp)
  (λi τ S1 hi ⟨y,z,e⟩ B=>by
   subst e B;have hi:i<U.length:=hi;have lt:=L.2 i (R.getD i 0) (U.getD i 0) (by rw[aI,aH ()];rfl) (by rw[aI,aH hi];rfl);refine⟨[.int<|R.getD i 0,.int<|U.getD i 0],S1,S1,by dsimp[iX,bools,jZ<|show([_,_]:ae).length=2 from rfl],by dsimp[iX,bools],⟨_,_,rfl⟩,(λz=>by cases z),λ_=>⟨S1,by dsimp[iX,bools,bu lt],rfl⟩⟩)
  U.length 0 [.unb,.unb] S (by show U.length+0=U.length;lia) ⟨_,_,rfl⟩ rfl
 subst g2;have m:((List.range' 0 U.length).filter λ_=>true).map (λ_=>A.bl true)=(U.map λ_=>true).map A.bl:=by
  rw[cL.mpr λ_ _=>rfl,bL,eB,fB];show _=U.map λ_=>A.bl true;rw[eB]
 rw[m]at g1;have j:jA [none,none] (v5 (iu 1)<|iu 0) (zH 2<|s_ (i_ 0)<|s_ (i_ 1) B3) jF (iL Ei (iu 0)<|iu 1) [.ref q,.ref r] S'=.ok (.ref S'.length) (S'++[.lst<|(U.map λ_=>true).map A.bl]):=by
  unfold jA;rw[d,Am.R.jK];show Am.R.jb (jN (vQ r q U.length) _ _ _ U.length 0 [.unb,.unb] S') _=_;rw[g1,Am.R.i8,jn<|by simp;lia]
 unfold jI nW oz;dsimp[iX,Qf,bools,l7,Nat.reduceAdd,Nat.reduceSub,hr,J,aL,bu<|show(U.length:Int)<=(R.length:Int)by lia,j,all_true];exact⟨_,rfl,Kp.refl.lay⟩
abbrev DA (T:List<|ag):Prop:=∀r∈T,∀x∈r,1<=x/\x<=1000000000
def yu{n:Nat}{T:List<|ag}(h:Tab S n rs T)(ht:Sy.jM T)(hb:DA T)(hl:T.length<=1000)(hr:∀i,(T.getD i []).length<64):∃S',kY [.ref n] S=.ok (.bl true) S'/\mR S S':=by
 have len:=h.len;have d:∀j,j<T.length->rs[j]?=some (rs.getD j 0):=λj B=>by rw[aI,aH ()];rfl
 have C:∀j,j<T.length->T.getD j []∈T:=λj B=>by rw[aI,aH B];exact cO B
 have V:∀j,j<T.length->T.getD j []≠[]:=λj B=>by
  have:=nR j ht;rw[kE B]at this;exact this.1
 obtain⟨S1,g1,g2⟩:=nZ (s:=i9 n T.length) (g:=i_ 0) (t:=jF) (e:=eFn jt<|iy (iu 0) iJ)
  (P:=λS1=>mR S S1) (T:=λf=>∃y,f=[y])
  (λi=>.ref<|rs.getD i 0) (λ_=>true) (λ_=>.bl true)
  (λi S1 hi k=>by
   have hi:i<T.length:=hi;show(iw S1 n).bind _=_;rw[k.lst _ _ (λz=>z) h.top];show(rs.map A.ref)[i]?=_;rw[aX,d i hi];rfl)
  (λS1 k=>by
   show(match iw S1 n with|some xs=>_|none=>_)=true;rw[k.lst _ _ (λz=>z) h.top];simp[len])
  (λi τ S1 hi ⟨y,e⟩ k=>by
   subst e;have hi:i<T.length:=hi;have F:=k.lst _ _ (λz=>z) (h.rows.get<|d i hi).2;obtain⟨S2,e2,k2⟩:=Kf F (hr i) (hb _<|C i hi) (V i hi)<|Sy.rQ ht _<|C i hi;exact⟨[.ref<|rs.getD i 0],S1,S1,by dsimp[iX,bools],by dsimp[iX,bools],⟨_,rfl⟩,(λz=>by cases z),λ_=>⟨S2,by dsimp[iX,bools,e2],k.trans k2⟩⟩)
  T.length 0 [.unb] S (by show T.length+0=T.length;lia) ⟨_,rfl⟩ Kp.refl
 have Z:((List.range' 0 T.length).filter λ_=>true).map (λ_=>A.bl true)=(T.map λ_=>true).map A.bl:=by
  rw[cL.mpr λ_ _=>rfl,bL,eB,fB];show _=T.map λ_=>A.bl true;rw[eB]
 rw[Z]at g1;have M:jA [none] (jX<|iu 0) (i_ 0) jF (eFn jt<|iy (iu 0) iJ) [.ref n] S=.ok (.ref S1.length) (S1++[.lst<|(T.map λ_=>true).map A.bl]):=by
  unfold jA;rw[kX (S1:=S) (by dsimp[iX,bools]) h.top,Am.R.jK,aL,len];show Am.R.jb (jN (i9 n T.length) _ _ _ T.length 0 [.unb] S) _=_;rw[g1,Am.R.i8,jn<|by simp;lia]
 obtain⟨S2,m⟩:∃S2,S2=S1++[O.lst<|(T.map λ_=>true).map A.bl]:=⟨_,rfl⟩;have k2:mR S S2:=by rw[m];exact g2.lay
 have h2:=h.xr k2;have N:=all_true (S:=S1) T;rw[<- m]at M N;obtain⟨S3,L,W⟩:=nZ (s:=oE 1 (T.length:Int)) (g:=i_ 0) (t:=jF) (e:=eFn jI<|iy (iL oV (iu 1)<|iu 0)<|iy (iL oV (iu 1)<|iL aSub (iu 0)<|eC<|.int 1) iJ)
  (P:=λS1=>mR S2 S1) (T:=λf=>∃y,f=[y,.ref n])
  (λi=>.int<|1+(i:Int)) (λ_=>true) (λ_=>.bl true)
  (λi S1 hi k=>aR hi) (λS1 k=>rfl)
  (λi τ S1 hi ⟨y,e⟩ k=>by
   subst e;have hi:i<((T.length:Int)-1).toNat:=hi;have G:=h2.xr k;have t1:oM (rs.map A.ref) (1+(i:Int))=some (.ref<|rs.getD (i+1) 0):=n9 (k:=i+1) () (by rw[aX,d (i+1) ()];rfl);have t2:oM (rs.map A.ref) (1+(i:Int)-1)=some (.ref<|rs.getD i 0):=n9 (k:=i) () (by rw[aX,d i ()];rfl);have U:Sy.Fits (T.getD (i+1) []) (T.getD i []):=B_ ht () (by rw[kE<|show i+1<T.length by lia];rfl);obtain⟨S4,e4,Y⟩:=Kx (G.rows.get<|d i ()).2 (G.rows.get<|d (i+1) ()).2 (by have:=hr i;lia) U;exact⟨[.int<|1+(i:Int),.ref n],S1,S1,by dsimp[iX,bools],by dsimp[iX,bools],⟨_,rfl⟩,(λz=>by cases z),λ_=>⟨S4,by dsimp[iX,bools,G.top,t1,t2,e4],k.trans Y⟩⟩)
  ((T.length:Int)-1).toNat 0 [.unb,.ref n] S2 (by show _+0=((T.length:Int)-1).toNat;lia) ⟨_,rfl⟩ Kp.refl
 have K:((List.range' 0 ((T.length:Int)-1).toNat).filter λ_=>true).map (λ_=>A.bl true)=((List.range ((T.length:Int)-1).toNat).map λ_=>true).map A.bl:=by
  rw[cL.mpr λ_ _=>rfl,bL,eB,fB];show _=(List.range _).map λ_=>A.bl true;rw[eB,gJ]
 rw[K]at L;have J:jA [none,some 0] (uO (eC<|.int 1)<|iT (f1 kP)<|iy (iu 0) iJ) (i_ 0) jF (eFn jI<|iy (iL oV (iu 1)<|iu 0)<|iy (iL oV (iu 1)<|iL aSub (iu 0)<|eC<|.int 1) iJ) [.ref n] S2=.ok (.ref S3.length) (S3++[.lst<|((List.range ((T.length:Int)-1).toNat).map λ_=>true).map A.bl]):=by
  unfold jA;rw[Ir (S1:=S2) (S2:=S2) (i:=1) (j:=(T.length:Int)) (by dsimp[iX,bools]) (by dsimp[iX,bools,h2.top,aL,len]) (mU ⋯ ⋯)<|mU () (),Am.R.jK];show Am.R.jb (jN (oE 1 (T.length:Int)) _ _ _ ((T.length:Int)-1).toNat 0 [.unb,.ref n] S2) _=_;rw[L,Am.R.i8,jn<|by simp;lia]
 unfold kY qG qt;dsimp[iX,Qf,bools,l7,Nat.reduceAdd,Nat.reduceSub,h.top,map_some,show yC .lst "list" = some true from rfl,fu,M,N,J,all_true];exact⟨_,rfl,(k2.trans W).lay⟩
end K63
namespace K63
open PySem L2 Am
theorem K8{r:Nat}{R:ag}(h:iw S r=some (R.map .int)):∀(k t:Nat) (x1:A),k+t=R.length->∃x1',lE (i9 r R.length) (i_ 1) jF (iu 1) k t [a0,x1] S=.ok ((R.drop t).map .int,[a0,x1']) S
 | 0,t,x1,e=>by
  refine⟨x1,?_⟩;have hf:(i9 r R.length).fin S=true:=by
   show(match iw S r with
    | some ys=>decide (ys.length<=R.length)
    | none=>false)=true
   rw[h];simp
  unfold lE;rw[aR hf,cZ ()];rfl
 | k+1,t,x1,e=>by
  have d:t<R.length:=()
  obtain⟨x1',e1⟩:=K8 (a0:=a0) h k (t+1) (.int R[t]) ();refine⟨x1',?_⟩;have hg:(i9 r R.length).get t S=some (.int R[t]):=by
   show(iw S r).bind _=_;rw[h,cD,aX,aH d];rfl
  unfold lE;dsimp[iX,bools,hg,e1];rw[bV d];rfl
theorem BV{n:Nat}{T:List<|ag}(h:Tab S n rs T):∀(k t:Nat) (x0 x1:A),k+t=T.length->kj (i9 n T.length) (i_ 0) jF (jX<|iu 0) (i_ 1) jF (iu 1) k t [x0,x1] S=.ok ((T.drop t).flatten.map .int) S
 | 0,t,x0,x1,e=>by
  have hf:(i9 n T.length).fin S=true:=by
   show(match iw S n with
    | some ys=>decide (ys.length<=T.length)
    | none=>false)=true
   rw[h.top];simp[h.len]
  unfold kj;rw[aR hf,cZ ()];rfl
 | k+1,t,x0,x1,e=>by
  have g:t<T.length:=()
  have j:=h.len;have hi:t<rs.length:=()
  have d:=(h.rows.get (i:=t) (r:=rs[t])<|aH hi).2;have hg:(i9 n T.length).get t S=some (.ref rs[t]):=by
   show(iw S n).bind _=_;rw[h.top,cD,aX,aH hi];rfl
  obtain⟨f,e1⟩:=K8 (a0:=.ref rs[t]) d (T.getD t []).length 0 x1 rfl;have e2:=BV h k (t+1) (.ref rs[t]) f ();have hs:jX (iu 0) [.ref rs[t],x1] S=.ok (i9 rs[t] ((T.getD t []).map A.int).length) S:=kX (by dsimp[iX,bools]) d;rw[aL]at hs;unfold kj;dsimp[iX,bools,hg,hs];show R.jb (lE (i9 rs[t] (T.getD t []).length) (i_ 1) jF (iu 1) (T.getD t []).length 0 [.ref rs[t],x1] S) _=_;rw[e1,R.i8];show R.jb (kj (i9 n T.length) (i_ 0) jF (jX<|iu 0) (i_ 1) jF (iu 1) k (t+1) [.ref rs[t],f] S) _=_;rw[e2,R.i8,cV,kE g,bQ,bU]
def IL{N:Nat}{l:ag}(h:l.Perm<|jT 1<|(N:Int)+1):sortI l=jT 1 ((N:Int)+1):=
 ((sortI_perm l).trans h).eq_of_pairwise (λ_ _ _ _ a b=>gk a b) (rK l) (by
  unfold jT;rw[eG];exact List.pairwise_lt_range.imp<|by intro a b h;lia)
def JA{n N:Nat}{P Q:List<|ag}(h:Tab S n rs P)(h':Tab S m qs Q)(tp:Sy.jM P)(tq:Sy.jM Q)(bp:DA P)(bq:DA Q)(hs:P.map List.length=Q.map List.length)(hN:N<=40)(hp:Q.flatten.Perm<|jT 1<|(N:Int)+1)
  (l1:P.length<=1000) (l2:Q.length<=1000) (r1:∀i,(P.getD i []).length<64) (r2:∀i,(Q.getD i []).length<64):∃S',jm [.ref n,.ref m] S=.ok (.bl true) S'/\mR S S':=by
 obtain⟨S1,e1,k1⟩:=yu h tp bp l1 r1;have h1:=h.xr k1;have F:=h'.xr k1;obtain⟨S2,e2,k2⟩:=yu F tq bq l2 r2;have h2:=h1.xr k2;have J:=F.xr k2;have M:jY [.ref n] S2=.ok (.ref S2.length) (S2++[.lst<|(P.map λr=>(r.length:Int)).map .int]):=by
  unfold jY qZ rO;dsimp[iX,bools,l7,Nat.reduceAdd,Nat.reduceSub,sM (cap:=[]) (src:=jX<|iu 0) (τ:=[.ref n]) h2 (kX (by dsimp[iX,bools]) h2.top) ()]
 obtain⟨S3,d⟩:∃S3,S3=S2++[O.lst<|(P.map λr=>(r.length:Int)).map .int]:=⟨_,rfl⟩;have V:mR S2 S3:=by rw[d];exact Kp.refl.lay
 have x3:iw S3 S2.length=some ((P.map λr=>(r.length:Int)).map .int):=by rw[d];exact iR
 rw[<- d]at M;have t:=J.xr V;have Z:jY [.ref m] S3=.ok (.ref S3.length) (S3++[.lst<|(Q.map λr=>(r.length:Int)).map .int]):=by
  unfold jY qZ rO;dsimp[iX,bools,l7,Nat.reduceAdd,Nat.reduceSub,sM (cap:=[]) (src:=jX<|iu 0) (τ:=[.ref m]) t (kX (by dsimp[iX,bools]) t.top) ()]
 obtain⟨S4,B⟩:∃S4,S4=S3++[O.lst<|(Q.map λr=>(r.length:Int)).map .int]:=⟨_,rfl⟩;have G:mR S3 S4:=by rw[B];exact Kp.refl.lay
 have x4:iw S4 S3.length=some ((Q.map λr=>(r.length:Int)).map .int):=by rw[B];exact iR
 rw[<- B]at Z;have j:=t.xr G;have es:(P.map λr=>(r.length:Int))=Q.map λr=>(r.length:Int):=by
  have:=cj (List.map λk:Nat=>(k:Int)) hs;rw[bL,bL]at this;exact this
 have W:=wI<|yM (G.lst _ _ (λz=>z) x3) x4;rw[bu es,fu]at W;have fl:Q.flatten.length=N:=by rw[hp.length_eq,rE];lia
 have K:xj [none,none] (jX<|iu 1) (i_ 0) jF (jX<|iu 0) (i_ 1) jF (iu 1) [.ref n,.ref m,.unb] S4=.ok (.ref S4.length) (S4++[.lst<|Q.flatten.map .int]):=by
  have e:=BV j Q.length 0 .unb .unb rfl;rw[cV]at e;unfold xj;rw[kX (S1:=S4) (by dsimp[iX,bools]) j.top,R.jK,aL,j.len];show R.jb (kj (i9 m Q.length) _ _ _ _ _ _ Q.length 0 [.unb,.unb] S4) _=_;rw[e,R.i8,jn<|by rw[aL];lia]
 obtain⟨S5,g⟩:∃S5,S5=S4++[O.lst<|Q.flatten.map .int]:=⟨_,rfl⟩;have k5:mR S4 S5:=by rw[g];exact Kp.refl.lay
 have x5:iw S5 S4.length=some (Q.flatten.map .int):=by rw[g];exact iR
 rw[<- g]at K;have L:uT (.ref S4.length) S5=.ok (.ref S5.length) (S5++[.lst<|(jT 1<|(N:Int)+1).map .int]):=by
  show opt (iw S5 S4.length) _=_;rw[x5,iP,ints_map,iP,jZ (),IL hp]
 obtain⟨C,f⟩:∃C,C=S5++[O.lst<|(jT 1<|(N:Int)+1).map .int]:=⟨_,rfl⟩;have k6:mR S5 C:=by rw[f];exact Kp.refl.lay
 have Y:iw C S5.length=some ((jT 1<|(N:Int)+1).map .int):=by rw[f];exact iR
 rw[<- f]at L;have rl:(jT 1<|(N:Int)+1).length=N:=by rw[rE];lia
 unfold jm j6 j9;dsimp[iX,Qf,bools,l7,Nat.reduceAdd,Nat.reduceSub,e1,e2,M,Z,W,fu,K,L,Y,aL,rl,bu<|show(N:Int)<=40 by lia];rw[C8<|Gh (show(-1000000:Int)<=1 by decide) ⋯ (show -1000000<=(N:Int)+1 by lia) () (),R.jK];have x7:iw (C++[O.lst<|(jT 1<|(N:Int)+1).map .int]) S5.length=some ((jT 1<|(N:Int)+1).map .int):=k_ Y;have U:=Aw<|yM (a:=S5.length) (b:=C.length) x7 iR;rw[bu rfl]at U;rw[U];exact⟨_,rfl,((((((k1.trans k2).trans V).trans G).trans k5).trans k6).lay)⟩
end K63
namespace K63
open PySem L2 Am
abbrev qb:Nat->List (ag)->List (Int×A)
 | _,[]=>[]
 | t,q::Q=>(q.map λk=>(k,A.int (t:Int)))++qb (t+1) Q
def DY{kvs:List<|Int×A}{k:Int}(h:k∉kvs.map (·.1)):kN kvs k=none:=by
 unfold kN;rw[List.find?_eq_none.mpr λx hx=>by simpa using λe=>h<|bK.mpr ⟨x,hx,e⟩];rfl
def Jy{kvs:List<|Int×A}{k:Int}{v:A}(h:k∉kvs.map (·.1)):zO kvs k v=kvs++[(k,v)]:=by
 unfold zO;rw[DY h];rfl
def GI{S:iC}{n:Nat}(h:n<S.length):pL (S.set n<|.mY kvs) n=some kvs:=q_<|bF h
def FW{S:iC}{n:Nat}(h:n≠m):iw (S.set n o) m=iw S m:=by unfold iw;rw[bE h]
def nE{S:iC}{n:Nat}(h:S[n]?=some o):S.set n o=S:=by
 obtain⟨d,e⟩:=aK.mp h;rw[<- e];exact fW d
theorem EV{r n a:Nat}{R:ag}(hn:n≠r)(J:R.length<=1000)(j:R.Nodup):∀(k t:Nat) (x2:A) (S:iC) (kvs:List<|Int×A),k+t=R.length->iw S r=some (R.map .int)->n<S.length->pL S n=some kvs->kvs.length<=1000+t->(∀x∈R.drop t,x∉kvs.map (·.1)) ->
  ∃x2',tU qd (i9 r R.length) (i_ 2) jF (iu 2) (iu 0) n k t [.int (a:Int),.ref r,x2] S=.ok [.int (a:Int),.ref r,x2'] (S.set n<|.mY<|kvs++(R.drop t).map λk=>(k,A.int (a:Int)))
 | 0,t,x2,S,kvs,e,h,hS,hk,_,_=>by
  have hf:(i9 r R.length).fin S=true:=by
   show(match iw S r with
    | some ys=>decide (ys.length<=R.length)
    | none=>false)=true
   rw[h];simp
  refine⟨x2,?_⟩;unfold tU;rw[aR hf,cZ (),dD,bJ];congr 1;exact(nE<|m5 hk).symm
 | k+1,t,x2,S,kvs,e,h,hS,hk,hz,hd=>by
  have f:t<R.length:=()
  have dr:R.drop t=R[t]::R.drop (t+1):=bV f;have g:R[t]∉kvs.map (·.1):=hd _ (by rw[dr];exact aM ..);have d:(R.drop t).Nodup:=j.sublist<|List.drop_sublist _ _;rw[dr]at d;have hg:(i9 r R.length).get t S=some (.int R[t]):=by
   show(iw S r).bind _=_;rw[h,cD,aX,aH f];rfl
  have st:qd (.ref n) (.int R[t]) (.int (a:Int)) S=.ok Unit.unit (S.set n<|.mY<|kvs++[(R[t],.int (a:Int))]):=by
   show opt (pL S n) _=_;rw[hk,iP,jZ<|show kvs.length<sizeLine by rw[cS];lia,Jy g]
  obtain⟨x2',e1⟩:=EV (a:=a) hn J j k (t+1) (.int R[t]) (S.set n<|.mY<|kvs++[(R[t],.int (a:Int))]) (kvs++[(R[t],.int (a:Int))]) () (by rw[FW hn];exact h) (by rw[bG];exact hS) (GI hS) (by rw[aY];show kvs.length+1<=_;lia) (λx hx=>by
   rw[bU,bA,not_or];refine⟨hd x<|by rw[dr];exact aN _ hx,λz=>?_⟩;have:x=R[t]:=by simpa using z
   rw[this]at hx;exact(bO.mp d).1 hx)
  refine⟨x2',?_⟩;unfold tU;dsimp[iX,bools,hg,st,e1,gx];rw[dr,bC,bg];rfl
end K63
namespace K63
open PySem L2 Am
theorem Cg{n:Nat}{Q:List<|ag}(J:Q.flatten.Nodup)(L:Q.flatten.length<=1000):∀(k t:Nat) (x0 x1 x2:A) (S:iC) (kvs:List<|Int×A),k+t=Q.length->Tab S m qs Q->n∉m::qs->n<S.length->pL S n=some kvs->kvs.length+(Q.drop t).flatten.length<=1000->(∀x∈(Q.drop t).flatten,x∉kvs.map (·.1)) ->
  ∃τ',oN qd (o8 m Q.length) (zH 2<|s_ (i_ 0)<|s_ (i_ 1) B3) jF (jX<|iu 1) (i_ 2) jF (iu 2) (iu 0) n k t [x0,x1,x2] S=.ok τ' (S.set n<|.mY<|kvs++qb t (Q.drop t))
 | 0,t,x0,x1,x2,S,kvs,e,h,hn,hS,hk,_,_=>by
  have hf:(o8 m Q.length).fin S=true:=by
   show(match iw S m with
    | some ys=>decide (ys.length=Q.length)
    | none=>false)=true
   rw[h.top];simp[h.len]
  refine⟨[x0,x1,x2],?_⟩;unfold oN;rw[aR hf,cZ ()];show R.ok _ S=.ok _ (S.set n<|.mY<|kvs++[]);rw[bJ,nE<|m5 hk]
 | k+1,t,x0,x1,x2,S,kvs,e,h,hn,hS,hk,hz,hd=>by
  have C:t<Q.length:=()
  have len:=h.len;have d:qs[t]?=some (qs.getD t 0):=by rw[aI,aH ()];rfl
  have f:=(h.rows.get d).2;have dr:=kE C;rw[dr,bQ]at hz hd;rw[aY]at hz;have B:(Q.drop t).flatten.Nodup:=by
   have:Q.flatten=(Q.take t).flatten++(Q.drop t).flatten:=by rw[<- List.flatten_append,dh]
   rw[this]at J;exact(cH.mp J).2.1
  rw[dr,bQ,cH]at B;have hg:(o8 m Q.length).get t S=some (.tup [.int (t:Int),.ref<|qs.getD t 0]):=by
   show(iw S m).bind _=_;rw[h.top,cD,aX,d];rfl
  have j:n≠qs.getD t 0:=λz=>hn (aN _<|by rw[z];exact bx d);have hs:jX (iu 1) [.int (t:Int),.ref<|qs.getD t 0,x2] S=.ok (i9 (qs.getD t 0) ((Q.getD t []).map A.int).length) S:=kX (by dsimp[iX,bools]) f;rw[aL]at hs;obtain⟨g,e1⟩:=EV (a:=t) j () B.1 (Q.getD t []).length 0 x2 S kvs () f hS hk () (λx hx=>hd x<|dz _<|by rwa [cV]at hx);rw[cV]at e1;have kp:Kp (·=n) S (S.set n<|.mY<|kvs++(Q.getD t []).map λk=>(k,A.int (t:Int))):=Kp.refl.EL<|.inl rfl;have h2:Tab (S.set n<|.mY<|kvs++(Q.getD t []).map λk=>(k,A.int (t:Int))) m qs Q:=h.kp kp λr hr z=>hn (by rw[<- z];exact hr);obtain⟨τ',e2⟩:=Cg J L k (t+1) (.int (t:Int)) (.ref<|qs.getD t 0) g _ _ () h2 hn (by rw[bG];exact hS) (GI hS) (by rw[aY,aL];lia) (λx hx=>by
   rw[bU,bA,not_or];refine⟨hd x<|aT _ hx,λz=>?_⟩;rw[bL]at z;obtain⟨y,hy,rfl⟩:=bK.mp z;exact B.2.2 y hy y hx rfl)
  refine⟨τ',?_⟩;rw[gx]at e2;unfold oN;dsimp[iX,bools,hg,jZ<|show([_,_]:ae).length=2 from rfl,hs];show R.jb (tU qd (i9 (qs.getD t 0) (Q.getD t []).length) (i_ 2) jF (iu 2) (iu 0) n (Q.getD t []).length 0 [.int (t:Int),.ref<|qs.getD t 0,x2] S) _=_;rw[e1,R.i8];show oN qd (o8 m Q.length) _ _ _ _ _ _ _ n k (t+1) [.int (t:Int),.ref<|qs.getD t 0,g] _=_;rw[e2,dr];show _=R.ok τ' (S.set n<|.mY<|kvs++((Q.getD t []).map (λk=>(k,A.int (t:Int)))++qb (t+1) (Q.drop<|t+1)));rw[bg]
theorem Ca{t:Nat}{k:Int}:∀{q:ag},k∈q->(q.map λk=>(k,A.int (t:Int))).find? (λkv=>decide<|kv.1=k)=some (k,.int (t:Int))
 | [],c=>nomatch c
 | x::q,c=>by
  rw[bC,cz];by_cases e:x=k
  ·subst e;simp
  ·rw[show decide ((x,A.int (t:Int)).1=k)=false from bw e];exact Ca (by
    rcases a_.mp c with z|z
    ·exact absurd z.symm e
    ·exact z)
theorem Cd:∀{Q:List<|ag}{t:Nat}{k:Int},(∃q∈Q,k∈q)->kN (qb t Q) k=some (.int ((t+Sy.wh Q k:Nat):Int))
 | [],_,_,h=>by obtain⟨q,g,_⟩:=h;cases g
 | q::Q,t,k,h=>by
  rw[Sy.l5];show kN ((q.map λk=>(k,A.int (t:Int)))++qb (t+1) Q) k=_;unfold kN;rw[List.find?_append];by_cases c:k∈q
  ·rw[aR c];rw[Ca c];rfl
  ·rw[aU c];have:(q.map λk=>(k,A.int (t:Int))).find? (λj=>decide<|j.1=k)=none:=List.find?_eq_none.mpr λx hx=>by
    obtain⟨y,hy,rfl⟩:=bK.mp hx;simpa using λe:y=k=>c<|by rw[<- e];exact hy
   rw[this];have h':∃p∈Q,k∈p:=by
    obtain⟨p,hp,d⟩:=h
    rcases a_.mp hp with e|e
    ·rw[e]at d;exact absurd d c
    ·exact⟨p,e,d⟩
   have f:=Cd (t:=t+1) h';unfold kN at f;show((qb (t+1) Q).find? _).map _=_;rw[f];congr 3
   lia
theorem FL:∀(Q:List<|ag) (t:Nat),(qb t Q).length=Q.flatten.length
 | [],_=>rfl
 | q::Q,t=>by
  show((q.map λk=>(k,A.int (t:Int)))++qb (t+1) Q).length=_;rw[aY,aL,FL Q<|t+1,bQ,aY]
end K63
namespace Sy
open Tb
theorem zf:∀{Q:List<|ag}{i:Nat}{m:Int},jM Q->(∀q∈Q,∀k∈q,k<m)->i<=Q.length->(∀j,((add Q i m).getD (j+1) []).length<=((add Q i m).getD j []).length)->jM (add Q i m)
 | [],i,m,_,_,_,_=>⟨(by simp),cW _ _,(λu d=>nomatch d),trivial⟩
 | q::Q,0,m,⟨h1,h2,h3,h4⟩,hm,_,_=>by
  refine⟨by simp,yY h2 λy hy=>Int.le_of_lt<|hm q (aM ..) y hy,λu d=>?_,h4⟩;have f:=h3 u d;refine⟨by rw[aY];have:=f.1;lia,λj x y hx hy=>f.2 j x y ?_ hy⟩;have G:=(aK.mp hy).1;rw[aS (by have:=f.1;lia)]at hx;exact hx
 | q::Q,i+1,m,⟨h1,h2,h3,h4⟩,hm,hi,hl=>by
  have F:=zf (Q:=Q) (i:=i) (m:=m) h4 (λp hp=>hm p<|aN _ hp) (by simpa using hi) λj=>by
   have:=hl<|j+1;exact this
  have C:=hm q<|aM ..;have t:((add Q i m).getD 0 []).length<=q.length:=hl 0;refine⟨h1,h2,λu d=>?_,F⟩;have lt:∀(j:Nat) (x:Int),q[j]?=some x->x<m:=λj x hx=>C x (bx hx)
  cases Q with
  | nil=>
   have d:some [m]=some u:=d
   cases d
   refine⟨b6.mpr h1,λj x y hx hy=>?_⟩;have:=(aK.mp hy).1;have B:j=0:=by simpa using this
   subst B
   cases hy
   exact lt 0 x hx
  | cons v V=>
   have f:=h3 v rfl
   cases i with
   | zero=>
    have d:some (v++[m])=some u:=d
    cases d
    refine⟨t,λj x y hx hy=>?_⟩
    rcases dI j v.length with z|z
    ·rw[aS z]at hy;exact f.2 j x y hx hy
    ·have g:=(aK.mp hy).1;rw[aY]at g;have:j=v.length:=by simp at g;lia
     subst this;rw[b9<|aP _,bW]at hy
     cases hy
     exact lt _ x hx
   | succ i=>
    have d:some v=some u:=d
    cases d
    exact f
theorem wg:∀{T:List<|ag},jM T->∀j,(T.getD (j+1) []).length<=(T.getD j []).length
 | [],_,j=>aP _
 | [r],_,j=>bN _
 | r::s::T,h,0=>(h.2.2.1 s rfl).1
 | r::s::T,h,j+1=>wg (T:=s::T) h.2.2.2 j
theorem sZ(xs:ag):∀n,n<=xs.length->jM (tabs xs n).2
 | 0,_=>trivial
 | n+1,h=>by
  have e:(tabs xs<|n+1).2=add (tabs xs n).2 (row (tabs xs n).1<|xs.getD n 0) ((n:Int)+1):=rfl;have g:=jC xs<|n+1;have tl:=wg<|sQ xs h;have d:∀j,((tabs xs<|n+1).2.getD j []).length=((tabs xs<|n+1).1.getD j []).length:=λj=>by
   have:=cj (λl:am=>l[j]?) g;dsimp[aX]at this;rw[aI,aI]
   cases h1:(tabs xs<|n+1).2[j]?<;>cases h2:(tabs xs<|n+1).1[j]?<;>rw[h1,h2]at this
   ·cases this
   ·cases this
   ·exact aV this
  rw[e]at d ⊢;refine zf (sZ xs n ()) (λq f k m=>?_) ?_ λj=>?_
  ·have:=(wR xs n).1 q f k m;lia
  ·have l:=cj List.length<|jC xs n;rw[aL,aL]at l;rw[l];exact(uw _ _).2
  ·rw[d,d];exact tl j
end Sy
namespace Sy
open Tb
inductive Chain (ro:Nat->Nat):Nat->List (ag)->Prop
 | nil:Chain ro 0 []
 | step {N:Nat} {P P':List<|ag}:jM P->nV P (ro<|N+1)->(ki P<|ro<|N+1).2=pad P' P.length->P'.length<=P.length->Chain ro N P'->Chain ro (N+1) P
theorem yP(ro:Nat->Nat):∀(N:Nat) {P Q:List<|ag},jM P->jM Q->P.map List.length=Q.map List.length->Q.flatten.Perm (L2.jT 1<|(N:Int)+1)->(∀k:Nat,k<N->ro (k+1)=wh Q ((k:Int)+1))->Chain ro N P
 | 0,P,Q,hP,hQ,hs,hp,_=>by
  have U:Q=[]:=by
   cases Q with
   | nil=>rfl
   | cons q Q=>
    have:=hp.length_eq;have:=b6.mpr hQ.1;rw[bQ,aY]at *
    have z:(L2.jT 1<|((0:Nat):Int)+1).length=0:=rfl
    lia
  subst U;have Z:P=[]:=eW.mp hs;subst Z;exact .nil
 | N+1,P,Q,hP,hQ,hs,hp,hr=>by
  have f:∀k:Int,(∃q∈Q,k∈q) ↔ 1<=k/\k<((N+1:Nat):Int)+1:=λk=>by
   rw[<- L2.pR,<- hp.mem_iff,cE]
  obtain⟨F,B,J,K,d,M,_⟩:=CK (m:=(N:Int)+1) hQ (λq V k O=>by have:=(f k).mp ⟨q,V,O⟩;lia)<|(f _).mpr ⟨(),()⟩;have ra:=hr N<|bD _;rw[<- ra]at B K d;have L:nV P (ro<|N+1):=by
   have l:∀i:Nat,(P[i]?).map List.length=(Q[i]?).map List.length:=λi=>by rw[<- aX,<- aX,hs]
   have C:P.length=Q.length:=by have:=cj List.length hs;simpa using this
   refine⟨by rw[C];exact d.1,λu W=>?_⟩;have e1:=l<|ro (N+1)+1;rw[W]at e1;obtain⟨w,hw,e⟩:=bh.mp e1.symm;have k:=d.2 w hw;have e2:=l<|ro<|N+1;rw[aH<|by rw[C];exact d.1,aH d.1]at e2;rw[aI,aH d.1]at k;rw[aI,aH<|by rw[C];exact d.1];have e2:=aV e2;dsimp[dR]at k ⊢
   lia
  obtain⟨t,p1,p2,p3,G,Y,_⟩:=wY hP L;have sh:t.map List.length=F.map List.length:=by
   refine yD (a:=ro<|N+1) (qY p1) (qY J) ?_ (by rw[aL];exact K) ?_
   ·rw[aL];have:=(uw t (ki P<|ro<|N+1).1).2;rw[G]at this;exact this
   ·rw[<- sV F (ro<|N+1) ((N:Int)+1),<- B,<- hs];have:=l8 t (ki P<|ro<|N+1).1;rw[p3,G]at this;exact this.symm
  have g:F.flatten.Perm (L2.jT 1<|(N:Int)+1):=by
   have e:L2.jT 1 (((N+1:Nat):Int)+1)=L2.jT 1 ((N:Int)+1)++[(N:Int)+1]:=by
    unfold L2.jT;rw[show(((N+1:Nat):Int)+1-1).toNat=N+1 by lia,show((N:Int)+1-1).toNat=N by lia,List.range_succ,bU];show _++[1+(N:Int)]=_;rw[Int.add_comm 1]
   rw[e]at hp;have:=(M.symm.trans hp).trans<|eF (l₁:=L2.jT 1<|(N:Int)+1) (l₂:=[(N:Int)+1]);exact(List.perm_cons _).mp this
  exact .step hP L p2 Y (yP ro N p1 J sh g λj hj=>by
   rw[hr j (),B,Gp ()];have:((j:Int)+1)∈L2.jT 1 ((N:Int)+1):=L2.pR.mpr ⟨(),()⟩;rw[<- g.mem_iff,cE]at this;exact this)
end Sy
namespace K63
open PySem L2 Am
def NF{n:Nat}{k:Int}:D4 (.ref n) (.int k) S=opt (pL S n) λkvs=>opt (kN kvs k) λv=>.ok v S:=rfl
theorem BY:∀(U:List<|ag) (a i:Nat),((Sy.ki U a).2.getD i []).length<=(U.getD i []).length
 | [],_,_=>aP _
 | r::T,0,0=>by show r.dropLast.length<=r.length;rw[eK];lia
 | r::T,0,i+1=>aP _
 | r::T,a+1,0=>by show(r.set _ _).length<=r.length;rw[bG];exact aP _
 | r::T,a+1,i+1=>BY T a i
def Dj{S:iC}{n:Nat}{T:List<|ag}(h:Tab S n rs T)(j:T.length<=1000):∃(qs:am) (m:Nat) (S':iC),oY [.ref n] S=.ok (.ref m) S'/\Tab S' m qs T/\mR S S'/\∀r∈m::qs,S.length<=r:=by
 obtain⟨qs,m,S1,e1,h1,k1,d⟩:=Dq (cap:=[]) (τ:=[.ref n]) (src:=jX<|iu 0) h (kX (by dsimp[iX,bools]) h.top) ();unfold oY u9 uz;dsimp[iX,bools,l7,Nat.reduceAdd,Nat.reduceSub,e1];exact⟨qs,m,S1,rfl,h1,k1,d⟩
abbrev JI (P Q:List<|ag)(N:Nat):ag:=Sy.Lu (λk=>Sy.wh Q (k:Int)) N P
structure Pr (P Q:List (ag))(N:Nat):Prop where
 tp:Sy.jM P
 tq:Sy.jM Q
 bp:DA P
 sh:P.map List.length=Q.map List.length
 le:N<=40
 pm:Q.flatten.Perm<|jT 1<|(N:Int)+1
def Pr.fl{P Q:List<|ag}{N:Nat}(h:Pr P Q N):Q.flatten.length=N:=by rw[h.pm.length_eq,rE];lia
def Fl(T:List<|ag):T.flatten.length=(T.map List.length).sum:=List.length_flatten
def Pr.small{P Q:List<|ag}{N:Nat}(h:Pr P Q N):P.length<=40/\Q.length<=40/\(∀i,(P.getD i []).length<=40)/\∀i,(Q.getD i []).length<=40:=by
 have s:=h.fl;rw[Fl]at s;have l:=h.le;have a:=Tb.qM<|Sy.qY h.tq;have b:=Tb.sW<|Q.map List.length;have c:=cj List.length h.sh;rw[aL]at a;rw[aL,aL]at c;refine⟨(),(),λi=>?_,λi=>?_⟩
 ·rw[<- Tb.pO,h.sh];have:=b i;lia
 ·rw[<- Tb.pO];have:=b i;lia
def Pr.bq{P:List<|ag}{N:Nat}(h:Pr P Q N):DA Q:=λr hr x hx=>by
 have:x∈jT 1 ((N:Int)+1):=h.pm.mem_iff.mp<|cE.mpr ⟨r,hr,hx⟩;have:=pR.mp this;have:=h.le
 lia
def zX{S:iC}{n N:Nat}{P:List<|ag}(h:Tab S n rs P)(h':Tab S m qs Q)(pr:Pr P Q N):∃(L:Nat) (S':iC),mH [.ref n,.ref m] S=.ok (.ref L) S'/\iw S' L=some ((JI P Q N).map .int)/\mR S S'/\S.length<=L:=by
 obtain⟨z1,z2,z3,z4⟩:=pr.small;obtain⟨S1,e1,k1⟩:=JA h h' pr.tp pr.tq pr.bp pr.bq pr.sh pr.le pr.pm () () (λi=>by have:=z3 i;lia) (λi=>by have:=z4 i;lia);have h1:=h.xr k1;obtain⟨cs,c,S2,e2,h2,k2,fr2⟩:=Dj h1 ();have M:=k1.trans k2;have G:=h'.xr M;have nd:Q.flatten.Nodup:=pr.pm.nodup_iff.mpr<|Ab 1 _;have fl:=pr.fl;have le:=pr.le;obtain⟨τd,e3⟩:=Cg (n:=S2.length) (qs:=qs) (m:=m) nd () Q.length 0 .unb .unb .unb (S2++[.mY []]) [] () (G.xr Kp.refl.lay) (λz=>by have:=G.lt _ z;lia) (by simp) (q_<|by simp) (by rw[cV];show 0+_<=_;lia) λx _ z=>nomatch z;have sd:(S2++[O.mY []]).set S2.length (.mY<|[]++qb 0 (Q.drop 0))=S2++[.mY<|qb 0 Q]:=by
  rw[gh,cV,cN _ _<|aP _,bW];rfl
 rw[sd]at e3;have ed:FO (.mY []) qd [none,none,none] (DQ<|iu 1) (zH 2<|s_ (i_ 0)<|s_ (i_ 1) B3) jF (jX<|iu 1) (i_ 2) jF (iu 2) (iu 0) [.ref n,.ref m,.ref c,.unb,.unb,.unb] S2=.ok (.ref S2.length) (S2++[.mY<|qb 0 Q]):=by
  unfold FO;rw[By (S1:=S2) (n:=m) (by dsimp[iX,bools]) G.top,R.jK,aL,G.len];show R.jb (oN qd (o8 m Q.length) _ _ _ _ _ _ _ S2.length Q.length 0 [.unb,.unb,.unb]<|S2++[.mY []]) _=_;rw[e3,R.i8]
 obtain⟨S3,C⟩:∃S3,S3=S2++[O.mY<|qb 0 Q]:=⟨_,rfl⟩;have W:mR S2 S3:=by rw[C];exact Kp.refl.lay
 have d3:pL S3 S2.length=some (qb 0 Q):=by rw[C];exact q_ (by simp)
 have l3:S3.length=S2.length+1:=by rw[C];simp
 rw[<- C]at ed;have h3:=h2.xr W;have Z:=M.trans W;have lc:∀r∈c::cs,r<S2.length:=h2.lt;have K:=Sy.yP (λk=>Sy.wh Q (k:Int)) N pr.tp pr.tq pr.sh pr.pm (λk _=>by show Sy.wh Q ((k+1:Nat):Int)=_;congr 1);have Y:pL (S3++[O.lst []]) S2.length=some (qb 0 Q):=q_ (by rw[aS ()];exact m5 d3);have ln:=Z.len;unfold mH qK qI;dsimp[iX,bools,l7,Nat.reduceAdd,Nat.reduceSub,e1,fu,e2,ed];refine EA (lo:=(N:Int)) (hi:=0) (S1:=S3++[.lst []]) (show qT _ _=_ from yz (S1:=S3++[.lst []]) (S2:=S3++[.lst []]) (by dsimp[iX,bools,JX,Y,FL,fl]) (by dsimp[iX,bools]) (by dsimp[iX,bools]) (mU () ())<|mU ⋯ ⋯)
  (λi τ S'=>∃(a5:A) (f:List<|ag) (d:ag),τ=[.ref n,.ref m,.ref c,.ref S2.length,.ref S3.length,a5]/\Tab S' c cs (Sy.pad f P.length)/\f.length<=P.length/\(∀j,((Sy.pad f P.length).getD j []).length<=40)/\Sy.Chain (λk=>Sy.wh Q (k:Int)) (N-i) f/\iw S' S3.length=some (d.map .int)/\d.length=i/\pL S' S2.length=some (qb 0 Q)/\mR S S'/\Sy.Lu (λk=>Sy.wh Q (k:Int)) (N-i) (Sy.pad f P.length)++d.reverse=JI P Q N)
  (λr=>∃(L:Nat) (S':iC),RS.end (RS.seq r _)=.ok (.ref L) S'/\iw S' L=some ((JI P Q N).map .int)/\mR S S'/\S.length<=L)
  ⟨_,P,[],rfl,?_,aP _,?_,K,iR,rfl,Y,Z.lay,?_⟩ ?_ ?_
 ·rw[show Sy.pad P P.length=P by unfold Sy.pad;rw[bW,eX,bJ]];exact h3.xr Kp.refl.lay
 ·rw[show Sy.pad P P.length=P by unfold Sy.pad;rw[bW,eX,bJ]];exact z3
 ·rw[show Sy.pad P P.length=P by unfold Sy.pad;rw[bW,eX,bJ]];exact bJ _
 ·rintro i τ S4 hi ⟨a5,f,d,rfl,t4,p4,r4,J,F,V,d4,k4,B⟩;left;obtain⟨j,hj⟩:∃j,N-i=j+1:=⟨N-i-1,()⟩;have ji:N-(i+1)=j:=()
  rw[hj]at J B;generalize hk:j+1=k at J
  cases J with
  | nil=>lia
  | @step g _ P'' ta co tk pl ch=>
  obtain rfl:g=j:=()
  have lk:kN (qb 0 Q) ((N:Int)-(i:Int))=some (.int ((Sy.wh Q ((g+1:Nat):Int):Nat):Int)):=by
   rw[show(N:Int)-(i:Int)=((g+1:Nat):Int)by lia];have:((g+1:Nat):Int)∈Q.flatten:=pr.pm.mem_iff.mpr<|pR.mpr ⟨(),()⟩;have:=Cd (t:=0)<|cE.mp this;rw[gX]at this;exact this
  obtain⟨S5,e5,t5,k5⟩:=Jf t4 (MW ta co p4) (by unfold Sy.pad;rw[aY,fQ];lia) (λj=>by have:=r4 j;lia);have nl:S3.length∉cs:=λz=>by have:=lc _<|aN _ z;lia
  have nD:S2.length∉cs:=λz=>by have:=lc _<|aN _ z;lia
  have U:=k5.lst _ _ nl F;have ll:=mO U;have ep:Sy.ki (Sy.pad f P.length) (Sy.wh Q ((g+1:Nat):Int))=((Sy.ki f<|Sy.wh Q ((g+1:Nat):Int)).1,Sy.pad P'' P.length):=by
   rw[Sy.t8 co.1 p4,tk,Sy.A6 pl p4]
  unfold qP;dsimp[iX,bools,NF,F,d4,lk,e5,U,aL,rg<|show d.length<16777216 by lia];refine⟨_,_,rfl,_,P'',d++[(Sy.ki f<|Sy.wh Q ((g+1:Nat):Int)).1],rfl,?_,(),λj=>?_,by rw[ji];exact ch,?_,by rw[aY,V];rfl,?_,(k4.old k5 λr hr _ z=>absurd (fr2 r<|aN _ z) (by have:=k1.len;lia)).set<|.inr (),?_⟩
  ·rw[ep]at t5;exact t5.kp (c:=(·=S3.length)) (Kp.refl.set<|.inl rfl) λr hr z=>by have:=lc r hr;lia
  ·have:=BY (Sy.pad f P.length) (Sy.wh Q ((g+1:Nat):Int)) j;rw[ep]at this;exact bH this (r4 j)
  ·rw[ep,om ll,bU];rfl
  ·have:=k5.obj _ _ nD<|m5 d4;refine q_ ?_;rw[bE ()];exact this
  ·rw[ji,List.reverse_append,<- B];show Sy.Lu _ g _++([_]++d.reverse)=(Sy.Lu _ g (Sy.ki (Sy.pad f P.length)<|Sy.wh Q ((g+1:Nat):Int)).2++[(Sy.ki (Sy.pad f P.length)<|Sy.wh Q ((g+1:Nat):Int)).1])++d.reverse;rw[ep,bg]
 ·rintro τ S4 ⟨a5,f,d,rfl,t4,p4,r4,J,F,V,d4,k4,B⟩;rw[show((N:Int)-0).toNat=N by lia,bW]at B;dsimp[iX,bools,F,<- List.map_reverse];refine⟨_,_,rfl,?_,k4.lay,by have:=k4.len;lia⟩;rw[iR,<- B];rfl
end K63
namespace K63
open PySem L2 Am
theorem C1:∀(T:List<|ag) (x:Int) (r:ag) (y:Int),r∈Tb.put T x->y∈r->y=x\/∃q∈T,y∈q
 | [],x,r,y,hr,hy=>by
  have:r=[x]:=br.mp hr;rw[this]at hy;exact .inl<|br.mp hy
 | q::T,x,r,y,hr,hy=>by
  by_cases c:Tb.fg q x=q.length
  ·rw[Tb.kL c]at hr
   rcases a_.mp hr with z|z
   ·rw[z]at hy
    rcases bA.mp hy with w|w
    ·exact .inr ⟨q,aM ..,w⟩
    ·exact .inl<|br.mp w
   ·exact .inr ⟨r,aN _ z,hy⟩
  ·rw[Tb.mz c]at hr;have lt:=Tb.uU c
   rcases a_.mp hr with z|z
   ·rw[z]at hy
    rcases List.mem_or_eq_of_mem_set hy with w|w
    ·exact .inr ⟨q,aM ..,w⟩
    ·exact .inl w
   ·rcases C1 T _ r y z hy with w|⟨p,hp,w⟩
    ·exact .inr ⟨q,aM ..,by rw[w];exact bx<|getD_at lt⟩
    ·exact .inr ⟨p,aN _ hp,w⟩
theorem zm{xs:ag}(hx:∀x∈xs,1<=x/\x<=1000000000):∀n,n<=xs.length->DA (Tb.tabs xs n).1
 | 0,_=>λr hr=>nomatch hr
 | n+1,h=>λr hr y hy=>by
  rcases C1 (Tb.tabs xs n).1 (xs.getD n 0) r y hr hy with z|⟨q,d,z⟩
  ·rw[z];exact hx _ (bx<|getD_at ())
  ·exact zm hx n () q d y z
theorem yo:∀(Q:List<|ag) (i:Nat) (m:Int),(Tb.add Q i m).flatten.Perm (m::Q.flatten)
 | [],_,m=>dU _
 | q::Q,0,m=>by
  show((q++[m])::Q).flatten.Perm (m::(q::Q).flatten);rw[bQ,bQ,bg];exact cP
 | q::Q,i+1,m=>by
  show(q::Tb.add Q i m).flatten.Perm (m::(q::Q).flatten);rw[bQ,bQ];exact((yo Q i m).append_left q).trans cP
theorem r8(xs:ag):∀n,(Tb.tabs xs n).2.flatten.Perm (jT 1<|(n:Int)+1)
 | 0=>dU _
 | n+1=>by
  have d:jT 1 (((n+1:Nat):Int)+1)=jT 1 ((n:Int)+1)++[(n:Int)+1]:=by
   unfold jT;rw[show(((n+1:Nat):Int)+1-1).toNat=n+1 by lia,show((n:Int)+1-1).toNat=n by lia,List.range_succ,bU];show _++[1+(n:Int)]=_;rw[Int.add_comm 1]
  rw[d];exact((yo _ _ _).trans<|(r8 xs n).cons _).trans (eF (l₁:=[(n:Int)+1]))
def Oa(P:List<|ag):Sy.pad P P.length=P:=by unfold Sy.pad;rw[bW,eX,bJ]
def Ky{xs:ag}(j:xs.length<=40)(hx:∀x∈xs,1<=x/\x<=1000000000):Pr (Tb.tabs xs xs.length).1 (Tb.tabs xs xs.length).2 xs.length/\JI (Tb.tabs xs xs.length).1 (Tb.tabs xs xs.length).2 xs.length=xs:=by
 refine⟨⟨Sy.sQ xs<|aP _,Sy.sZ xs _<|aP _,zm hx _<|aP _,(Tb.jC xs _).symm,j,r8 xs _⟩,?_⟩;have:=Sy.yL xs (λk=>Sy.wh (Tb.tabs xs xs.length).2 (k:Int)) xs.length (aP _) (Tb.tabs xs xs.length).1.length (λk d=>(Sy.wR xs xs.length).2.2 k d)<|aP _;rw[Oa,gR]at this;exact this
end K63
namespace Kn
open Tb (fg put)
theorem uE:∀{A B:ag}{x:Int},(∀a∈A,a<=x)->(∀b∈B,x<b)->fg (A++B) x=A.length
 | [],[],_,_,_=>rfl
 | [],b::B,x,_,hB=>by
  have:=hB b<|aM ..;unfold Tb.fg;simp[gO,this]
 | a::A,B,x,hA,hB=>by
  have h:=hA a<|aM ..;have d:=uE (A:=A) (B:=B) (x:=x) (λc hc=>hA c<|aN _ hc) hB;unfold Tb.fg at d ⊢;rw[fY,gO,bw ()];simp[d]
def O4{A:ag}{x:Int}(j:∀a∈A,a<=x):put (A::T) x=(A++[x])::T:=by
 refine Tb.kL ?_;have:=uE (A:=A) (B:=[]) (x:=x) j (λb hb=>absurd hb<|by simp)
 rwa [bJ]at this
def Po{A B:ag}{x b:Int}(j:∀a∈A,a<=x)(hb:x<b)(J:∀c∈B,x<c):put ((A++b::B)::T) x=(A++x::B)::put T b:=by
 have e:=uE (A:=A) (B:=b::B) (x:=x) j (λc hc=>by
  rcases a_.mp hc with rfl|z
  ·exact hb
  ·exact J c z)
 rw[Tb.mz<|by rw[e];simp,e];simp[aI]
theorem cut(x:Int):∀{R:ag},R.Pairwise (·<=·)->∃A B,R=A++B/\(∀a∈A,a<=x)/\∀b∈B,x<b
 | [],_=>⟨[],[],rfl,λa d=>absurd d<|by simp,λa d=>absurd d<|by simp⟩
 | r::R,h=>by
  rw[bT]at h;by_cases c:r<=x
  ·obtain⟨A,B,rfl,f,g⟩:=cut x h.2;refine⟨r::A,B,rfl,λa d=>?_,g⟩
   rcases a_.mp d with rfl|z
   ·exact c
   ·exact f a z
  ·refine⟨[],r::R,rfl,λa d=>absurd d<|by simp,λb hb=>?_⟩
   rcases a_.mp hb with rfl|z
   ·lia
   ·have:=h.1 b z;lia
inductive Mv:ag->ag->Prop
 | one (x y z:Int) (h:x<=y) (h':y<z):Mv [x,z,y] [z,x,y]
 | two (x y z:Int) (h:x<y) (h':y<=z):Mv [y,x,z] [y,z,x]
abbrev Tu (T:List<|ag):Prop:=∀R∈T,R.Pairwise (·<=·)
def le_app{A B:ag}{x:Int}(h1:∀a∈A,a<=x)(h2:∀b∈B,b<=x):∀a∈A++B,a<=x:=λa d=>(bA.mp d).elim (h1 a)<|h2 a
def iV{B:ag}{b x:Int}(h1:b<=x)(h2:∀b∈B,b<=x):∀a∈b::B,a<=x:=λa d=>(a_.mp d).elim (λz=>z ▸ h1)<|h2 a
def nF{A B:ag}{x:Int}(h1:∀a∈A,x<a)(h2:∀b∈B,x<b):∀a∈A++B,x<a:=λa d=>(bA.mp d).elim (h1 a)<|h2 a
def kI{B:ag}{b x:Int}(h1:x<b)(h2:∀b∈B,x<b):∀a∈b::B,x<a:=λa d=>(a_.mp d).elim (λz=>z ▸ h1)<|h2 a
def le_nil{x:Int}:∀a∈([]:ag),a<=x:=λa d=>absurd d<|by simp
def kq{x:Int}:∀a∈([]:ag),x<a:=λa d=>absurd d<|by simp
def zh{A:ag}{x y:Int}(h:∀a∈A,a<=x)(k:x<=y):∀a∈A,a<=y:=λa d=>by have:=h a d;lia
def tu{A:ag}{x y:Int}(h:∀a∈A,y<a)(k:x<=y):∀a∈A,x<a:=λa d=>by have:=h a d;lia
def pe{L:ag}{R:ag}{x:Int}(e:R=L)(j:∀a∈L,a<=x)(J:R'=L++[x]):put (R::T) x=R'::T:=by rw[e,J,O4 j]
def pb{L M R:ag}{x b:Int}(e:R=L++b::M)(j:∀a∈L,a<=x)(hb:x<b)(J:∀c∈M,x<c)(U:R'=L++x::M):put (R::T) x=R'::put T b:=by rw[e,U,Po j hb J]
def GR(j:∀w w',Mv w w'->w.foldl put T=w'.foldl put T){x y z:Int}(h:x<y)(h':y<=z):put (put (put T y) x) z=put (put (put T y) z) x:=j _ _<|.two x y z h h'
def xE(j:∀w w',Mv w w'->w.foldl put T=w'.foldl put T){x y z:Int}(h:x<=y)(h':y<z):put (put (put T x) z) y=put (put (put T z) x) y:=j _ _<|.one x y z h h'
def Jc{R:ag}(hR:R.Pairwise (·<=·))(ih:∀w w',Mv w w'->w.foldl put T=w'.foldl put T){x y z:Int}(h:x<y)(h':y<=z):put (put (put (R::T) y) x) z=put (put (put (R::T) y) z) x:=by
 obtain⟨A0,E,rfl,K,hE⟩:=cut y hR;obtain⟨h1,h2,_⟩:=cU.mp hR;obtain⟨A,B,rfl,m,V⟩:=cut x h1;have P:∀b∈B,b<=y:=λb hb=>K b<|aT _ hb;have hAy:=zh m (show x<=y by lia);have g:=zh m (show x<=z by lia);have F:=zh P h'
 cases E with
 | nil=>
  rw[pe (R':=A++B++[y]) (bJ _) K rfl]
  cases B with
  | nil=>
   rw[pb (L:=A) (M:=[]) (b:=y) (R':=A++[x]) (by simp) m h kq rfl,pe (R':=A++[x]++[z]) rfl (le_app g<|iV () le_nil) rfl,
    pe (R:=A++[]++[y]) (R':=A++[y]++[z]) (L:=A++[y]) (by simp) (le_app g<|iV h' le_nil) rfl,pb (L:=A) (M:=[z]) (b:=y) (R':=A++[x]++[z]) (by simp) m h (kI () kq)<|by simp]
  | cons b B=>
   have hb:=V b<|aM ..;have j:∀c∈B,x<c:=λc hc=>V c<|aN _ hc;have k:∀c∈B,c<=z:=λc hc=>F c<|aN _ hc;rw[pb (L:=A) (M:=B++[y]) (b:=b) (R':=A++x::(B++[y])) (by simp) m hb (nF j<|kI h kq) rfl,
    pe (R':=A++x::(B++[y])++[z]) rfl (le_app g<|iV ()<|le_app k<|iV h' le_nil) rfl,
    pe (R:=A++b::B++[y]) (R':=A++b::B++[y]++[z]) rfl (le_app (le_app g F)<|iV h' le_nil) rfl,
    pb (L:=A) (M:=B++[y]++[z]) (b:=b) (R':=A++x::(B++[y])++[z]) (by simp) m hb (nF (nF j<|kI h kq)<|kI () kq) (by simp)]
 | cons e E=>
  have he:=hE e<|aM ..;have U:∀c∈E,y<c:=λc hc=>hE c<|aN _ hc;rw[bT]at h2;obtain⟨C,D,rfl,W,hD⟩:=cut z h2.2;have t:∀c∈C++D,x<c:=λc hc=>by have:=U c hc;lia
  rw[pb (L:=A++B) (M:=C++D) (b:=e) (R':=A++B++y::(C++D)) rfl K he U rfl];obtain⟨f,X,hf,O,ex,ez⟩:∃(f:Int) (X:ag),f<e/\(∀a∈X++C,a<=z)/\(∀T,put ((A++B++y::(C++D))::T) x=(X++(C++D))::put T f)/\∀(N:ag) T,(∀c∈N,x<c)->put ((A++B++y::N)::T) x=(X++N)::put T f:=by
   cases B with
   | nil=>
    refine⟨y,A++[x],he,le_app (le_app g<|iV () le_nil) W,λT=>?_,λN T Y=>?_⟩
    ·exact pb (L:=A) (M:=C++D) (b:=y) (by simp) m h t (by simp)
    ·exact pb (L:=A) (M:=N) (b:=y) (by simp) m h Y<|by simp
   | cons b B=>
    have hb:=V b<|aM ..;have j:∀c∈B,x<c:=λc hc=>V c<|aN _ hc;have hby:=P b<|aM ..;have k:∀c∈B,c<=z:=λc hc=>F c<|aN _ hc;refine⟨b,A++x::(B++[y]),(),le_app (le_app g<|iV ()<|le_app k<|iV h' le_nil) W,λT=>?_,λN T Y=>?_⟩
    ·exact pb (L:=A) (M:=B++y::(C++D)) (b:=b) (by simp) m hb (nF j<|kI h t) (by simp)
    ·exact pb (L:=A) (M:=B++y::N) (b:=b) (by simp) m hb (nF j<|kI h Y)<|by simp
  have G:∀a∈A++B++y::C,a<=z:=le_app (le_app g F)<|iV h' W;rw[ex]
  cases D with
  | nil=>
   rw[pe (L:=X++C) (R':=X++(C++[z])) (by simp) O<|by simp,pe (L:=A++B++y::C) (R:=A++B++y::(C++[])) (R':=A++B++y::(C++[z])) (by simp) G<|by simp,
    ez _ _ (λc hc=>by
     rcases bA.mp hc with w|w
     ·exact t c (dz _ w)
     ·rw[show c=z by simpa using w];lia)]
  | cons d D=>
   have hd:=hD d<|aM ..;have J:∀c∈D,z<c:=λc hc=>hD c<|aN _ hc;have Z:e<=d:=h2.1 d (by simp);rw[pb (L:=X++C) (M:=D) (b:=d) (R':=X++(C++z::D)) (by simp) O hd J<|by simp,pb (L:=A++B++y::C) (R:=A++B++y::(C++d::D)) (M:=D) (b:=d) (R':=A++B++y::(C++z::D)) (by simp) G hd J<|by simp,
    ez _ _ (nF (λc hc=>t c<|dz _ hc)<|kI ()<|tu J ()),GR ih hf Z]
def Jl{R:ag}(hR:R.Pairwise (·<=·))(ih:∀w w',Mv w w'->w.foldl put T=w'.foldl put T){x y z:Int}(h:x<=y)(h':y<z):put (put (put (R::T) x) z) y=put (put (put (R::T) z) x) y:=by
 obtain⟨A,G,rfl,J,hG⟩:=cut x hR;obtain⟨_,h2,_⟩:=cU.mp hR;obtain⟨C,D,rfl,hC,W⟩:=cut z h2;have K:x<z:=()
 have m:=zh J h;have k:=zh J (show x<=z by lia);obtain⟨g1,g2,g3⟩:=cU.mp h2
 cases C with
 | nil=>
  cases D with
  | nil=>
   rw[pe (L:=A) (R':=A++[x]) (by simp) J rfl,pe (L:=A++[x]) (R':=A++[x]++[z]) rfl (le_app k<|iV () le_nil) rfl,pb (L:=A++[x]) (M:=[]) (b:=z) (R':=A++[x]++[y]) rfl (le_app m<|iV h le_nil) h' kq rfl,
    pe (L:=A) (R':=A++[z]) (R:=A++([]++[])) (by simp) k rfl,pb (L:=A) (M:=[]) (b:=z) (R':=A++[x]) rfl J K kq rfl,pe (L:=A++[x]) (R':=A++[x]++[y]) rfl (le_app m<|iV h le_nil) rfl]
  | cons d D=>
   have hd:=W d<|aM ..;have j:∀c∈D,z<c:=λc hc=>W c<|aN _ hc;rw[pb (L:=A) (M:=D) (b:=d) (R:=A++([]++d::D)) (R':=A++x::D) rfl J () (tu j ()) rfl];rw[pb (L:=A) (M:=D) (b:=d) (R:=A++([]++d::D)) (R':=A++z::D) rfl k hd j rfl,pb (L:=A) (M:=D) (b:=z) (R':=A++x::D) rfl J K (tu j ()) rfl]
   cases D with
   | nil=>
    rw[pe (L:=A++[x]) (R':=A++[x]++[z]) rfl (le_app k<|iV () le_nil) rfl,pb (L:=A++[x]) (M:=[]) (b:=z) (R':=A++[x]++[y]) rfl (le_app m<|iV h le_nil) h' kq rfl,
     pe (L:=A++[x]) (R':=A++[x]++[y]) rfl (le_app m<|iV h le_nil) rfl]
   | cons d2 D=>
    have hd2:=j d2<|aM ..;have O:∀c∈D,z<c:=λc hc=>j c<|aN _ hc;have hdd:d<=d2:=(bT.mp g2).1 d2<|aM ..;rw[pb (L:=A++[x]) (M:=D) (b:=d2) (R':=A++[x]++z::D) (by simp) (le_app k<|iV () le_nil) hd2 O rfl,pb (L:=A++[x]) (M:=D) (b:=z) (R':=A++[x]++y::D) rfl (le_app m<|iV h le_nil) h' (tu O ()) rfl,
     pb (L:=A++[x]) (M:=D) (b:=d2) (R':=A++[x]++y::D) (by simp) (le_app m<|iV h le_nil) () (tu O ()) rfl,GR ih hd hdd]
 | cons c C=>
  have hc:=hC c<|aM ..;have t:∀a∈C,a<=z:=λa B=>hC a<|aN _ B;have U:=hG c (by simp);have P:∀a∈C,x<a:=λa B=>hG a (by simp[B]);have hDx:∀a∈D,x<a:=λa B=>hG a (by simp[B]);rw[bT]at g1;obtain⟨F,H,rfl,hF,hH⟩:=cut y g1.2;obtain⟨f,Y,hcf,hfz,V⟩:∃(f:Int) (Y:ag),c<=f/\f<=z/\∀(N:ag) T,(∀a∈N,z<a)->put ((A++x::(F++H++z::N))::T) y=(Y++N)::put T f:=by
   cases H with
   | nil=>exact⟨z,A++x::(F++[y]),hc,c6 _,λN T hN=>pb (L:=A++x::F) (M:=N) (b:=z) (by simp) (le_app m<|iV h hF) h' (tu hN ())<|by simp⟩
   | cons g H=>
    have hg:=hH g<|aM ..;have Z:∀a∈H,y<a:=λa B=>hH a<|aN _ B;exact⟨g,A++x::(F++y::(H++[z])),g1.1 g<|by simp,t g<|by simp,λN T hN=>pb (L:=A++x::F) (M:=H++z::N) (b:=g) (by simp) (le_app m<|iV h hF) hg (nF Z<|kI h'<|tu hN ())<|by simp⟩
  rw[pb (L:=A) (M:=F++H++D) (b:=c) (R':=A++x::(F++H++D)) (by simp) J U (nF P hDx) rfl]
  cases D with
  | nil=>
   rw[pe (L:=A++x::(F++H)) (R':=A++x::(F++H++z::[])) (by simp) (le_app k<|iV () t)<|by simp,V _ _ kq,
    pe (L:=A++c::(F++H)) (R:=A++(c::(F++H)++[])) (R':=A++c::(F++H++z::[])) (by simp) (le_app k<|iV hc t) (by simp),pb (L:=A) (M:=F++H++z::[]) (b:=c) (R':=A++x::(F++H++z::[])) rfl J U (nF P<|kI K kq) rfl,V _ _ kq]
  | cons d D=>
   have hd:=W d<|aM ..;have j:∀a∈D,z<a:=λa B=>W a<|aN _ B;rw[pb (L:=A++x::(F++H)) (M:=D) (b:=d) (R':=A++x::(F++H++z::D)) (by simp) (le_app k<|iV () t) hd j<|by simp,V _ _ j,
    pb (L:=A++c::(F++H)) (R:=A++(c::(F++H)++d::D)) (M:=D) (b:=d) (R':=A++c::(F++H++z::D)) (by simp) (le_app k<|iV hc t) hd j (by simp),pb (L:=A) (M:=F++H++z::D) (b:=c) (R':=A++x::(F++H++z::D)) rfl J U (nF P<|kI K<|tu j ()) rfl,V _ _ j,xE ih hcf ()]
theorem keeps:∀{T:List<|ag}{w w':ag},Tu T->Mv w w'->w.foldl put T=w'.foldl put T
 | [],_,_,_,.one x y z h h'=>by
  show put (put [[x]] z) y=put (put [[z]] x) y;have f:x<z:=()
  rw[pe (L:=[x]) (R':=[x]++[z]) rfl (iV () le_nil) rfl,pb (L:=[x]) (M:=[]) (b:=z) (R':=[x]++[y]) rfl (iV h le_nil) h' kq rfl,
   pb (L:=[]) (M:=[]) (b:=z) (R:=[z]) (R':=[x]) rfl le_nil f kq rfl,pe (L:=[x]) (R':=[x]++[y]) rfl (iV h le_nil) rfl]
 | [],_,_,_,.two x y z h h'=>by
  show put (put [[y]] x) z=put (put [[y]] z) x;rw[pb (L:=[]) (M:=[]) (b:=y) (R:=[y]) (R':=[x]) rfl le_nil h kq rfl,pe (L:=[x]) (R':=[x]++[z]) rfl (iV () le_nil) rfl,
   pe (L:=[y]) (R':=[y]++[z]) rfl (iV h' le_nil) rfl,pb (L:=[]) (M:=[z]) (b:=y) (R:=[y]++[z]) (R':=[x]++[z]) rfl le_nil h (kI () kq) rfl]
 | R::T,_,_,hs,.one x y z h h'=>Jl (hs R<|aM ..) (λw w' m=>keeps (λR' d=>hs R'<|aN _ d) m) h h'
 | R::T,_,_,hs,.two x y z h h'=>Jc (hs R<|aM ..) (λw w' m=>keeps (λR' d=>hs R'<|aN _ d) m) h h'
end Kn
namespace Iv
open L2 Bl
abbrev inv:ag->Nat
 | []=>0
 | x::l=>l.countP (λy=>decide<|y<x)+inv l
abbrev kH (a b:ag):Nat:=(a.map λx=>b.countP λy=>decide<|y<x).sum
def qu(x:Int)(a b:ag):kH (x::a) b=b.countP (λy=>decide<|y<x)+kH a b:=rfl
theorem jJ:∀(a b:ag),inv (a++b)=inv a+inv b+kH a b
 | [],b=>by show inv b=0+inv b+0;lia
 | x::a,b=>by
  show(a++b).countP _+inv (a++b)=(a.countP _+inv a)+inv b+kH (x::a) b;rw[List.countP_append,jJ a b,qu];lia
theorem qR:∀{a b:am},a.Perm b->a.sum=b.sum
 | _,_,.nil=>rfl
 | _,_,.cons x h=>by rw[dM,dM,qR h]
 | _,_,.swap x y l=>by rw[dM,dM,dM,dM];lia
 | _,_,.trans h k=>(qR h).trans<|qR k
def J_{a:ag}(b:ag)(h:a.Perm a'):kH a b=kH a' b:=qR<|h.map _
def KP(a:ag){b:ag}(h:b.Perm b'):kH a b=kH a b':=by
 unfold kH;congr 1;refine eY λx _=>h.countP_eq _
def wU{M:ag}{x y:Int}(h:∀m∈M,m<x\/y<m)(j:x<y):M.countP (λm=>decide<|m<x)=M.countP (λm=>decide<|m<y):=by
 refine List.countP_congr λm hm=>?_;rw[fD,fD]
 rcases h m hm with z|z<;>omega
theorem tH:∀{M:ag}{x y:Int},(∀m∈M,m<x\/y<m)->x<y->kH M [x]=kH M [y]
 | [],_,_,_,_=>rfl
 | m::M,x,y,h,hxy=>by
  rw[qu,qu,tH (λm' hm=>h m'<|aN _ hm) hxy];congr 1;have:=h m<|aM ..;dsimp[gS,List.countP_nil];by_cases c:x<m
  ·rw[bu c,bu<|show y<m by omega]
  ·rw[bw c,bw<|show ¬y<m by omega]
def mid{M:ag}{x y:Int}(h:∀m∈M,m<x\/y<m)(j:x<y):inv ([y]++M++[x])=inv ([x]++M++[y])+1:=by
 rw[jJ,jJ,jJ<|[x]++M,jJ [x]];have e1:kH [y] M=kH [x] M:=by
  show M.countP _+0=M.countP _+0;rw[wU h j]
 have e2:kH ([y]++M) [x]=1+kH M [x]:=by
  show[x].countP _+kH M [x]=_;rw[gS,bu j];rfl
 have d:kH ([x]++M) [y]=kH M [y]:=by
  show[y].countP _+kH M [y]=_;rw[gS,bw (by lia:¬y<x)];simp
 rw[e1,e2,d,tH h j]
 skip
 lia
def Ho(M:ag)(x y:Int):([y]++M++[x]).Perm ([x]++M++[y]):=by
 refine(eF (l₁:=[y]++M) (l₂:=[x])).trans ?_
 skip
 exact .cons x<|eF (l₁:=[y]) (l₂:=M)
def step {P M R:ag}{x y:Int}(h:∀m∈M,m<x\/y<m)(j:x<y):inv (P++([y]++M++[x])++R)=inv (P++([x]++M++[y])++R)+1:=by
 have p:=Ho M x y;rw[jJ,jJ P,jJ<|P++([x]++M++[y]),jJ P,mid h j,KP P p,J_ R<|p.append_left P]
 lia
abbrev sw (a:ag)(i j:Nat):ag:=(a.set i<|a.getD j 0).set j<|a.getD i 0
def split{a:ag}(Z:i<j)(U:j<a.length):∃P M R:ag,a=P++([a.getD i 0]++M++[a.getD j 0])++R/\P=a.take i/\(∀m∈M,∃k,i<k/\k<j/\a[k]?=some m)/\sw a i j=P++([a.getD j 0]++M++[a.getD i 0])++R:=by
 have L:a.getD i 0=a[i]:=by rw[aI,aH ()];rfl
 have G:a.getD j 0=a[j]:=by rw[aI,aH U];rfl
 obtain⟨M,t⟩:∃M,M=(a.drop<|i+1).take (j-i-1):=⟨_,rfl⟩;have K:M.length=j-i-1:=by rw[t,b8,dO];lia
 have F:a=a.take i++([a.getD i 0]++M++[a.getD j 0])++a.drop (j+1):=by
  have h1:a.drop i=a[i]::a.drop (i+1):=bV ();have h2:a.drop (i+1)=M++a.drop j:=by
   rw[t];have:=dh (j-i-1)<|a.drop<|i+1;rw[List.drop_drop,show i+1+(j-i-1)=j by lia]at this;exact this.symm
  have J:a.drop j=a[j]::a.drop (j+1):=bV U
  conv=>lhs;rw[<- dh i a,h1,h2,J]
  rw[L,G];simp
 refine⟨a.take i,M,a.drop<|j+1,F,rfl,λm hm=>?_,?_⟩
 ·rw[t]at hm;obtain⟨k,z⟩:=List.getElem?_of_mem hm;have g:k<j-i-1:=by
   have:=(aK.mp z).1;rw[b8]at this;lia
  rw[e_ g,gD]at z;exact⟨i+1+k,(),(),z⟩
 ·have B:∀(P R:ag) (x y d f:Int),P.length=i->((P++([x]++M++[y])++R).set i f).set j d=P++([f]++M++[d])++R:=λP R x y d f C=>by
   rw[bg,cN _ _ (),C,bW];show(P++(f::((M++[y])++R))).set j d=_;rw[cN _ _ (),C,show j-i=(j-i-1)+1 by lia,List.set_cons_succ,bg,cN _ _ (),K,bW];simp
  have:=B (a.take i) (a.drop<|j+1) (a.getD i 0) (a.getD j 0) (a.getD i 0) (a.getD j 0) (by rw[b8];lia);rw[<- F]at this;exact this
end Iv
namespace Stp
open PySem L2 Iv
end Stp
namespace Mo
open PySem L2 Am Tb
abbrev lo (r:ag)(k:Nat):Int:=if r.getD (k+1) 0<r.getD k 0 then r.getD (k+1) 0 else r.getD k 0
abbrev hi (r:ag)(k:Nat):Int:=if r.getD (k+1) 0>r.getD k 0 then r.getD (k+1) 0 else r.getD k 0
abbrev c1 (r:ag)(k:Nat):Bool:=decide (k+2<r.length) && (decide (lo r k<=r.getD (k+2) 0) && decide (r.getD (k+2) 0<hi r k))
abbrev c2 (r:ag)(k:Nat):Bool:=decide (0<k) && (decide (lo r k<r.getD (k-1) 0) && decide (r.getD (k-1) 0<=hi r k))
abbrev lB (r:ag)(k:Nat):Bool:=(decide (r.getD (k+1) 0<r.getD k 0) && decide (r.getD k 0<=r.getD (k+2) 0)) || (decide (r.getD (k+2) 0<r.getD k 0) && decide (r.getD k 0<=r.getD (k+1) 0))
theorem l_(xs:ag):∀i,i<=xs.length->(tabs xs i).1=(xs.take i).foldl put []
 | 0,_=>rfl
 | i+1,h=>by
  have d:=l_ xs i ();rw[fN<|show i<xs.length by lia,gM,<- d];show put (tabs xs i).1 (xs.getD i 0)=put (tabs xs i).1 xs[i];rw[aI,aH<|show i<xs.length by lia];rfl
abbrev dd:List (ag)->List (ag)->List (ag)
 | acc,[]=>acc
 | acc,x::xs=>dd (if x∈acc then acc else acc++[x]) xs
end Mo
namespace Ld
open Tb Mo
section
variable {r0 c:ag}{R:List (ag)}
end
def Oe{A:ag}{y:Int}:(A++y::B).getD A.length 0=y:=by
 rw[aI,b9<|aP _,bW];rfl
def split{R:ag}{x:Int}(hs:R.Pairwise (·<=·))(h:fg R x≠R.length):∃L b M,R=L++b::M/\(∀a∈L,a<=x)/\x<b/\(b::M).Pairwise (·<=·)/\L.Pairwise (·<=·)/\fg R x=L.length/\R.getD (fg R x) 0=b/\R.set (fg R x) x=L++x::M:=by
 obtain⟨L,B,e,f,g⟩:=Kn.cut x hs
 cases B with
 | nil=>
  rw[bJ]at e;have:fg (L++[]) x=L.length:=Kn.uE f (λ_ h=>absurd h<|by simp);rw[bJ]at this;rw[e]at h;exact absurd this h
 | cons b M=>
  have d:fg R x=L.length:=by rw[e];exact Kn.uE f g
  have p:=hs;rw[e,cU]at p;refine⟨L,b,M,e,f,g b<|aM ..,p.2.1,p.1,d,?_,?_⟩
  ·rw[d,e];exact Oe
  ·rw[d,e,cN _ _<|aP _,bW];rfl
end Ld
namespace Kc
open PySem L2 Am Tb Mo
open Sy (jM ki pad nV)
def getD_in{r:ag}{k:Nat}(h:k<r.length):r=r.take k++r.getD k 0::r.drop (k+1):=by
 conv=>lhs;rw[<- dh k r,bV h]
 rw[aI,aH h];rfl
theorem E5:∀(T:List<|ag) (x:Int),(put T x).flatten.Perm (x::T.flatten)
 | [],x=>dU _
 | r::T,x=>by
  by_cases c:fg r x=r.length
  ·rw[kL c];show((r++[x])++T.flatten).Perm (x::(r++T.flatten));rw[bg];exact cP
  ·have d:=uU c;rw[mz c];show(r.set (fg r x) x++(put T<|r.getD (fg r x) 0).flatten).Perm (x::(r++T.flatten));refine((E5 T _).append_left _).trans ?_;have e:=getD_in d;rw[fG,aR d]
   conv=>rhs;rw[e]
   dsimp[bg,fY];refine cP.trans<|List.Perm.cons _<|(List.Perm.append_left _ ?_);exact cP
theorem Ek:∀(w:ag) (T:List<|ag),(w.foldl put T).flatten.Perm (w++T.flatten)
 | [],T=>dU _
 | x::w,T=>by
  show(w.foldl put<|put T x).flatten.Perm _;exact(Ek w<|put T x).trans (((E5 T x).append_left w).trans cP)
def FZ(w:ag):(w.foldl put []).flatten.Perm w:=by
 have:=Ek w []
 rwa [List.flatten_nil,bJ]at this
abbrev cr (P:List<|ag)(a:Nat):Bool:=decide<|(P.getD (a+1) []).length<(P.getD a []).length
abbrev dr:Nat->List (ag)->List (ag)
 | 0,_=>[[]]
 | n+1,P=>(List.range P.length).flatMap λa=>if cr P a=true then(dr n (ki P a).2).map (·++[(ki P a).1])else[]
end Kc
namespace Gn
open Tb Sy
abbrev G:ag->Int->Int->Nat
 | [],_,_=>0
 | x::w,a,b=>max (G w a b)<|max (if a<=x then G w x b+1 else 0)<|if b<=x then G w a x+1 else 0
abbrev C (r:Int->Int->Bool):ag->Int->Nat
 | [],_=>0
 | x::w,a=>max (C r w a)<|if r a x=true then C r w x+1 else 0
abbrev gt (a x:Int):Bool:=decide<|x<a
abbrev le (a x:Int):Bool:=decide<|a<=x
def lI(x:Int)(w:ag)(a b:Int):G (x::w) a b=max (G w a b) (max (if a<=x then G w x b+1 else 0)<|if b<=x then G w a x+1 else 0):=rfl
theorem qf:∀(w:ag) (a b:Int),G w a b=G w b a
 | [],_,_=>rfl
 | x::w,a,b=>by rw[lI,lI,qf w a b,qf w x b,qf w a x];lia
theorem sq:∀(w:ag) {a a':Int}(b:Int),a<=a'->G w a' b<=G w a b
 | [],_,_,_,_=>aP _
 | x::w,a,a',b,h=>by
  have h1:=sq w b h;have h2:=sq w x h;rw[lI,lI];refine gE.2 ⟨(),gE.2 ⟨?_,?_⟩⟩
  ·split
   ·rw[aR<|show a<=x by lia];lia
   ·lia
  ·split<;>lia
def xg(w:ag){b j:Int}(a:Int)(h:b<=j):G w a j<=G w a b:=by
 rw[qf w a j,qf w a b];exact sq w a h
def mP(r:Int->Int->Bool)(x:Int)(w:ag)(a:Int):C r (x::w) a=max (C r w a) (if r a x=true then C r w x+1 else 0):=rfl
def uP{a x:Int}:gt a x=true ↔ x<a:=fD
def le_iff{a x:Int}:le a x=true ↔ a<=x:=fD
theorem xO:∀(w:ag) {a a':Int},a<=a'->C gt w a<=C gt w a'
 | [],_,_,_=>aP _
 | x::w,a,a',h=>by
  have:=xO w h;rw[mP,mP];refine gE.2 ⟨(),?_⟩;split
  ·next q=>rw[aR<|uP.2 (show x<a' by have:=uP.1 q;lia)];lia
  ·lia
abbrev E (u v:ag):Prop:=(∀a b,G u a b=G v a b)/\∀a,C gt u a=C gt v a
def E.rf(u:ag):E u u:=⟨λ_ _=>rfl,λ_=>rfl⟩
def E.tr{v w:ag}(h:E u v)(h':E v w):E u w:=⟨λa b=>(h.1 a b).trans<|h'.1 a b,λa=>(h.2 a).trans<|h'.2 a⟩
def E.co{v:ag}(x:Int)(h:E u v):E (x::u) (x::v):=⟨λa b=>by rw[lI,lI,h.1,h.1,h.1],λa=>by rw[mP,mP,h.2,h.2]⟩
theorem E.ap{v:ag}(h:E u v):∀(w:ag),E (w++u) (w++v)
 | []=>h
 | x::w=>(E.ap h w).co x
def L0(x:Int)(w:ag)(a b:Int):G w a b<=G (x::w) a b:=by rw[lI];lia
def L1{x a:Int}(w:ag)(b:Int)(h:a<=x):G w x b+1<=G (x::w) a b:=by rw[lI,aR h];lia
def L2{x b:Int}(w:ag)(a:Int)(h:b<=x):G w a x+1<=G (x::w) a b:=by rw[lI,aR h];lia
def Le{x a b:Int}{w:ag}{N:Nat}(h0:G w a b<=N)(h1:a<=x->G w x b+1<=N)(h2:b<=x->G w a x+1<=N):G (x::w) a b<=N:=by
 rw[lI];refine gE.2 ⟨h0,gE.2 ⟨?_,?_⟩⟩
 ·split
  ·exact h1 ‹_›
  ·lia
 ·split
  ·exact h2 ‹_›
  ·lia
def QF{x z:Int}(v:ag)(a b:Int)(h:x<z):G (z::x::v) a b<=G (x::z::v) a b:=
 Le (Le (bH (L0 z v a b)<|L0 ..) (λp=>by have:=L0 z v x b;have:=L1 (z::v) b p;lia) (λp=>by have:=L0 z v a x;have:=L2 (z::v) a p;lia))
  (λp=>by
   have q:G (x::v) z b<=G (x::z::v) a b-1:=Le (by have:=L1 v b p;have:=L0 x (z::v) a b;lia) (λq=>()) (λq=>by have:=L1 v x p;have:=L2 (z::v) a q;lia);have:=L1 v b p;have:=L0 x (z::v) a b;lia)
  (λp=>by
   have q:G (x::v) a z<=G (x::z::v) a b-1:=Le (by have:=L2 v a p;have:=L0 x (z::v) a b;lia) (λq=>by have:=L2 v x p;have:=L1 (z::v) b q;lia) λq=>();have:=L2 v a p;have:=L0 x (z::v) a b;lia)
def QC{x z:Int}{v:ag}{a b:Int}{N:Nat}(h:G (z::x::v) a b<=N)(h1:a<=x->G v z b+2<=N)(h2:b<=x->G v a z+2<=N):G (x::z::v) a b<=N:=by
 refine Le (Le ?_ ?_ ?_) ?_ ?_
 ·have:=L0 x v a b;have:=L0 z (x::v) a b;lia
 ·intro p;have:=L0 x v z b;have:=L1 (x::v) b p;lia
 ·intro p;have:=L0 x v a z;have:=L2 (x::v) a p;lia
 ·intro p;have q:G (z::v) x b<=N-1:=Le (by have:=L1 v b p;have:=L0 z (x::v) a b;lia) (λ_=>by have:=h1 p;lia) (λq=>by have:=L1 v z p;have:=L2 (x::v) a q;lia);have:=L1 v b p;have:=L0 z (x::v) a b;lia
 ·intro p;have q:G (z::v) a x<=N-1:=Le (by have:=L2 v a p;have:=L0 z (x::v) a b;lia) (λq=>by have:=L2 v z p;have:=L1 (x::v) b q;lia) (λ_=>by have:=h2 p;lia);have:=L2 v a p;have:=L0 z (x::v) a b;lia
def g1{x y z:Int}(h1:x<y)(h2:y<=z)(v:ag)(a b:Int):G (y::z::x::v) a b=G (y::x::z::v) a b:=by
 have d:x<z:=()
 refine dw (Le (bH (QF v a b d)<|L0 ..) (λp=>bH (dX<|QF v y b d)<|L1 _ _ p) λp=>bH (dX<|QF v a y d)<|L2 _ _ p) (Le (QC (L0 ..) (λp=>?_) λp=>?_) (λp=>?_) λp=>?_)
 ·have:=L0 x v z b;have:=L1 (x::v) b h2;have:=L1 (z::x::v) b (show a<=y by lia);lia
 ·have:=L0 x v a z;have:=L2 (x::v) a h2;have:=L2 (z::x::v) a (show b<=y by lia);lia
 ·have s:=L1 (z::x::v) b p;have q:G (x::z::v) y b<=G (y::z::x::v) a b-1:=QC () (λq=>()) λq=>by
   have:=qf v y z;have:=xg v z (show x<=y by lia);have:=L2 v z q;have:=L1 (x::v) b h2;lia
  lia
 ·have s:=L2 (z::x::v) a p;have q:G (x::z::v) a y<=G (y::z::x::v) a b-1:=QC () (λq=>by
   have:=qf v y z;have:=sq v z (show x<=y by lia);have:=L1 v z q;have:=L2 (x::v) a h2;lia) λq=>()
  lia
def g2{x y z:Int}(h1:x<=y)(h2:y<z)(v:ag)(a b:Int):G (x::z::y::v) a b=G (z::x::y::v) a b:=by
 refine dw (QC (aP _) (λp=>?_) λp=>?_) (QF _ a b ())
 ·have q:G (y::v) z b<=G (z::x::y::v) a b-2:=Le (by
   have:=L1 v b h1;have:=L1 (y::v) b p;have:=L0 z (x::y::v) a b;have:=sq v b (show y<=z by lia);lia) (λq=>()) λq=>by
   have:=L1 v z h1;have:=L1 (y::v) z p;have:=L2 (x::y::v) a (show b<=z by lia);have:=qf v z y;lia
  have:=L1 v b h1;have:=L1 (y::v) b p;have:=L0 z (x::y::v) a b;lia
 ·have q:G (y::v) a z<=G (z::x::y::v) a b-2:=Le (by
   have:=L2 v a h1;have:=L2 (y::v) a p;have:=L0 z (x::y::v) a b;have:=xg v a (show y<=z by lia);lia) (λq=>by
   have:=L2 v z h1;have:=L2 (y::v) z p;have:=L1 (x::y::v) b (show a<=z by lia);have:=qf v z y;lia) λq=>()
  have:=L2 v a h1;have:=L2 (y::v) a p;have:=L0 z (x::y::v) a b;lia
def K0(x:Int)(w:ag)(a:Int):C gt w a<=C gt (x::w) a:=by rw[mP];lia
def K1{x a:Int}(w:ag)(h:x<a):C gt w x+1<=C gt (x::w) a:=by rw[mP,aR<|uP.2 h];lia
def Ke{x a:Int}{w:ag}{N:Nat}(h0:C gt w a<=N)(h1:x<a->C gt w x+1<=N):C gt (x::w) a<=N:=by
 rw[mP];refine gE.2 ⟨h0,?_⟩;split
 ·exact h1 (uP.1 ‹_›)
 ·lia
def k1{x z:Int}(v:ag)(a:Int)(h:x<z):C gt (x::z::v) a<=C gt (z::x::v) a:=
 Ke (Ke (bH (K0 x v a)<|K0 ..) λp=>by have:=K0 x v z;have:=K1 (x::v) p;lia) λp=>by
  have q:C gt (z::v) x<=C gt (z::x::v) a-1:=Ke (by have:=K1 v p;have:=K0 z (x::v) a;lia) λq=>()
  have:=K1 v p;have:=K0 z (x::v) a;lia
def k2{x z:Int}{v:ag}{a:Int}{N:Nat}(h:C gt (x::z::v) a<=N)(h1:z<a->C gt v x+2<=N):C gt (z::x::v) a<=N:=by
 refine Ke (Ke ?_ λp=>?_) λp=>?_
 ·have:=K0 z v a;have:=K0 x (z::v) a;lia
 ·have:=K0 z v x;have:=K1 (z::v) p;lia
 ·have q:C gt (x::v) z<=N-1:=Ke (by have:=K1 v p;have:=K0 x (z::v) a;lia) λ_=>by have:=h1 p;lia
  have:=K1 v p;have:=K0 x (z::v) a;lia
def d1{x y z:Int}(h1:x<y)(h2:y<=z)(v:ag)(a:Int):C gt (y::z::x::v) a=C gt (y::x::z::v) a:=by
 have d:x<z:=()
 refine dw (Ke (k2 (K0 ..) λp=>?_) λp=>?_) (Ke (bH (k1 v a d)<|K0 ..) λp=>bH (dX<|k1 v y d)<|K1 _ p)
 ·have:=K0 z v x;have:=K1 (z::v) h1;have:=K1 (x::z::v) (show y<a by lia);lia
 ·have s:=K1 (x::z::v) p;have q:C gt (z::x::v) y<=C gt (y::x::z::v) a-1:=k2 () λq=>()
  lia
def d2{x y z:Int}(h1:x<=y)(h2:y<z)(v:ag)(a:Int):C gt (x::z::y::v) a=C gt (z::x::y::v) a:=by
 refine dw (k1 _ a ())<|k2 (aP _) λp=>?_;have q:C gt (y::v) x<=C gt (x::z::y::v) a-2:=Ke (by
  have:=xO v h1;have:=K1 v h2;have:=K1 (y::v) p;have:=K0 x (z::y::v) a;lia) λq=>()
 have:=K1 v h2;have:=K1 (y::v) p;have:=K0 x (z::y::v) a;have:=xO v h1;lia
def m1{x y z:Int}(h1:x<y)(h2:y<=z)(v:ag):E (y::z::x::v) (y::x::z::v):=⟨g1 h1 h2 v,d1 h1 h2 v⟩
def m2{x y z:Int}(h1:x<=y)(h2:y<z)(v:ag):E (x::z::y::v) (z::x::y::v):=⟨g2 h1 h2 v,d2 h1 h2 v⟩
theorem rA:∀(M:ag) {b x:Int}(v:ag),(b::M).Pairwise (·<=·)->x<b->E (b::(M++x::v)) (b::x::(M++v))
 | [],_,_,_,_,_=>E.rf _
 | m::M,b,x,v,h,hx=>by
  have h':=bT.mp h;have hm:=h'.1 m<|aM ..;exact((rA M v h'.2 ()).co b).tr (m1 hx hm _)
theorem rB:∀(L:ag) {b x:Int}(v:ag),L.Pairwise (·<=·)->(∀a∈L,a<=x)->x<b->E (L++b::x::v) (b::(L++x::v))
 | [],_,_,_,_,_,_=>E.rf _
 | l::L,b,x,v,h,hl,hx=>by
  have h':=bT.mp h;refine((rB L v h'.2 (λa d=>hl a<|aN _ d) hx).co l).tr ?_
  cases L with
  | nil=>exact m2 (hl l<|aM ..) hx _
  | cons q L=>
   have:=hl q<|aN _<|aM ..;exact m2 (h'.1 q<|aM ..) () _
def N6{R:ag}{x:Int}(hs:vp R)(h:fg R x≠R.length)(v:ag):E (R++x::v) (R.getD (fg R x) 0::(R.set (fg R x) x++v)):=by
 obtain⟨L,b,M,e,g,hx,j,d,_,f,es⟩:=Ld.split hs h;rw[f,es,e,bg,bg];exact((rA M v j hx).ap L).tr (rB L (M++v) d g hx)
theorem IQ:∀{T:List<|ag}{x:Int}(v:ag),jM T->E (plain T++x::v) (plain (put T x)++v)
 | [],_,_,_=>E.rf _
 | R::T,x,v,h=>by
  by_cases c:fg R x=R.length
  ·rw[kL c,iQ,iQ,<- bg,bg<|plain T++R,bg];dsimp[bg];exact E.rf _
  ·rw[mz c,iQ,iQ,bg,bg];exact((N6 h.2.1 c v).ap _).tr (IQ _ h.2.2.2)
theorem B0:∀(w:ag) {T:List<|ag},jM T->E (plain T++w) (plain<|w.foldl put T)
 | [],T,_=>by rw[bJ];exact E.rf _
 | x::w,T,h=>(IQ w h).tr<|B0 w<|uB h
def word(w:ag):E w (plain<|w.foldl put []):=B0 w (T:=[]) trivial
inductive Dl:ag->ag->ag->Prop
 | nil:Dl [] [] []
 | keep {d w w'} (x:Int):Dl d w w'->Dl d (x::w) (x::w')
 | drop {d w w'} (x:Int):Dl d w w'->Dl (x::d) (x::w) w'
abbrev hh:ag->Int->Nat
 | [],_=>0
 | x::_,a=>if a<=x then 1 else 0
def DZ(x:Int)(d:ag)(a:Int):hh (x::d) a=if a<=x then 1 else 0:=rfl
def Bd{a j:Int}(h:a<=j):∀d,hh d j<=hh d a
 | []=>aP _
 | x::d=>by
  by_cases q:j<=x
  ·rw[DZ,DZ,aR q,aR<|show a<=x by lia];exact aP _
  ·rw[DZ,aU q];exact bN _
def Gm:∀(d:ag) (a:Int),hh d a<=1
 | [],_=>bN _
 | x::d,a=>by rw[DZ];split<;>decide
abbrev lo (d:ag)(a b:Int):Nat:=min d.length<|hh d a+hh d b
def dl:∀{d w w':ag},Dl d w w'->d.Pairwise (· > ·)->∀a b,G w a b<=G w' a b+lo d a b:=by
 intro d w w' h
 induction h with
 | nil=>intro _ a b;exact bN _
 | @keep d w w' x h f=>
  intro p a b;refine Le ?_ (λq=>?_) λq=>?_
  ·have:=f p a b;have:=L0 x w' a b;lia
  ·have:=f p x b;have:=L1 w' b q;have:=Bd q d;unfold lo at *;lia
  ·have:=f p a x;have:=L2 w' a q;have:=Bd q d;unfold lo at *;lia
 | @drop d w w' x h f=>
  intro p a b;have g:=bT.mp p;have j:∀c,hh d c<=hh (x::d) c:=by
   intro c
   cases d with
   | nil=>exact bN _
   | cons y d=>
    have:=g.1 y<|aM ..;rw[DZ,DZ];by_cases q:c<=y
    ·rw[aR q,aR<|show c<=x by lia];exact aP _
    ·rw[aU q];exact bN _
  have hx:hh d x=0:=by
   cases d with
   | nil=>rfl
   | cons y d=>have:=g.1 y<|aM ..;exact aU ()
  have k:=j a;have hb:=j b;refine Le ?_ (λq=>?_) λq=>?_
  ·have:=f g.2 a b;unfold lo at *;rw[bz];lia
  ·have:=f g.2 x b;have:=sq w' b q;have e:hh (x::d) a=1:=aR q;unfold lo at *;rw[bz];lia
  ·have:=f g.2 a x;have:=xg w' a q;have e:hh (x::d) b=1:=aR q;unfold lo at *;rw[bz];lia
def Dl.app{w d2:ag}(h:Dl d w w')(h2:Dl d2 w2 w2'):Dl (d++d2) (w++w2) (w'++w2'):=by
 induction h with
 | nil=>exact h2
 | keep x _ f=>exact f.keep x
 | drop x _ f=>exact f.drop x
theorem Dl.same:∀(w:ag),Dl [] w w
 | []=>.nil
 | x::w=>(Dl.same w).keep x
abbrev Cs:List (ag)->Prop
 | []=>True
 | r::T=>(∀u,T.head?=some u->Fits u r)/\Cs T
theorem G0:∀{T:List<|ag},jM T->Cs T
 | [],_=>trivial
 | _::_,h=>⟨h.2.2.1,G0 h.2.2.2⟩
abbrev hds (T:List<|ag):ag:=(T.reverse.map λr=>r.take 1).flatten
def qS(r:ag)(T:List<|ag):hds (r::T)=hds T++r.take 1:=by unfold hds;simp
def NJ:∀(r:ag),Dl (r.take 1) r r.tail
 | []=>.nil
 | x::r=>(Dl.same r).drop x
theorem Hj:∀(T:List<|ag),Dl (hds T) (plain T) (plain<|T.map List.tail)
 | []=>.nil
 | r::T=>by rw[qS,iQ,bC,iQ];exact(Hj T).app (NJ r)
def Dr{u r:ag}(h:Fits u r):Fits u.tail r.tail:=by
 refine⟨by rw[gU,gU];have:=h.1;lia,λj x y hx hy=>?_⟩;rw[List.getElem?_tail]at hx hy;exact h.2 _ x y hx hy
theorem Bt:∀{T:List<|ag},Cs T->Cs (T.map List.tail)
 | [],_=>trivial
 | r::T,h=>⟨λu d=>by
   cases T with
   | nil=>cases d
   | cons q T=>cases d;exact Dr<|h.1 q rfl,Bt h.2⟩
theorem EO:∀{T:List<|ag},Cs T->(hds T).Pairwise (· > ·)/\∀r,T.head?=some r->∀x,r.head?=some x->∀y∈hds T,x<=y
 | [],_=>⟨.nil,λ_ h=>by cases h⟩
 | r::T,h=>by
  obtain⟨p,q⟩:=EO h.2;have d:∀x,r.head?=some x->∀y∈hds T,x<y:=by
   intro x hx y hy
   cases T with
   | nil=>cases hy
   | cons u T=>
    have f:=h.1 u rfl
    cases u with
    | nil=>
     exfalso;have:∀{T:List<|ag},Cs ([]::T)->hds ([]::T)=[]:=by
      intro T
      induction T with
      | nil=>intro _;rfl
      | cons s T j=>
       intro c;have e:s=[]:=by have:=(c.1 s rfl).1;exact dW.1 (by simpa using this)
       subst e;have:=j c.2;rw[qS,this];rfl
     rw[this h.2]at hy;cases hy
    | cons z u=>
     have:=q _ rfl z rfl y hy
     cases r with
     | nil=>cases hx
     | cons g r=>cases hx;have:=f.2 0 x z rfl rfl;lia
  rw[qS];refine⟨cU.2 ⟨p,?_,λy hy x hx=>?_⟩,λk hr x hx y hy=>?_⟩
  ·cases r with
   | nil=>exact .nil
   | cons x r=>exact cW ..
  ·cases r with
   | nil=>cases hx
   | cons g r=>
    have:x=g:=by simpa using hx
    subst this;exact d x rfl y hy
  ·cases hr
   rcases bA.1 hy with hy|hy
   ·exact Int.le_of_lt (d x hx y hy)
   ·cases r with
    | nil=>cases hx
    | cons g r=>
     cases hx;have:y=x:=by simpa using hy
     lia
theorem C5:∀{T:List<|ag},Cs T->min (hds T).length 1=min (T.getD 0 []).length 1/\min (hds T).length 2=min (T.getD 0 []).length 1+min (T.getD 1 []).length 1
 | [],_=>⟨rfl,rfl⟩
 | r::T,h=>by
  have d:=(C5 h.2).1;rw[qS,aY,b8];show min (_+_) 1=min r.length 1/\_=min r.length 1+min (T.getD 0 []).length 1;have f:(T.getD 0 []).length<=r.length:=by
   cases T with
   | nil=>exact bN _
   | cons u T=>exact(h.1 u rfl).1
  lia
def yq(T:List<|ag)(i:Nat):((T.map List.tail).getD i []).length=(T.getD i []).length-1:=by
 rw[aI,aI,aX]
 cases T[i]? with
 | none=>rfl
 | some r=>exact gU
theorem uM:∀{T:List<|ag},Cs T->(T.getD 0 []).length=0->plain T=[]
 | [],_,_=>rfl
 | r::T,h,e=>by
  have f:(T.getD 0 []).length<=r.length:=by
   cases T with
   | nil=>exact bN _
   | cons u T=>exact(h.1 u rfl).1
  have e:r.length=0:=e;rw[iQ,uM h.2 (),dW.1 e];rfl
def Jg{x:Int}(h:x∈hds T):x∈plain T:=by
 unfold hds at h;unfold plain;obtain⟨q,d,hx⟩:=cE.1 h;obtain⟨r,hr,rfl⟩:=bK.1 d;exact cE.2 ⟨r,hr,gf hx⟩
def D6{T:List<|ag}{x:Int}(h:x∈plain (T.map List.tail)):x∈plain T:=by
 unfold plain at *
 obtain⟨q,d,hx⟩:=cE.1 h;rw[gV]at d;obtain⟨r,hr,rfl⟩:=bK.1 d;exact cE.2 ⟨r,gV.2 hr,List.mem_of_mem_tail hx⟩
theorem up:∀(n:Nat) {T:List<|ag},Cs T->(T.getD 0 []).length<=n->∀a b,G (plain T) a b<=(T.getD 0 []).length+(T.getD 1 []).length/\((∀x∈plain T,x<b)->G (plain T) a b<=(T.getD 0 []).length)
 | 0,T,h,hl,a,b=>by rw[uM h ()];exact⟨bN _,λ_=>bN _⟩
 | n+1,T,h,hl,a,b=>by
  have d:=dl (Hj T) (EO h).1 a b;have e0:=yq T 0;have e1:=yq T 1;obtain⟨j,g⟩:=up n (Bt h) () a b;obtain⟨t,m⟩:=C5 h;have k:=Gm (hds T) a;have ob:=Gm (hds T) b;unfold lo at d;refine⟨(),λhb=>?_⟩;have z:hh (hds T) b=0:=by
   cases e:hds T with
   | nil=>rfl
   | cons y d=>have:=hb y (Jg<|by rw[e];exact aM ..);exact aU ()
  have:=g λx hx=>hb x<|D6 hx;by_cases f:(T.getD 0 []).length=0
  ·rw[uM h f];exact bN _
  ·lia
theorem skip:∀(u:ag) {w:ag}(a b:Int),G w a b<=G (u++w) a b
 | [],_,_,_=>aP _
 | x::u,w,a,b=>bH (skip u a b)<|L0 x (u++w) a b
theorem one_up:∀{R:ag}{b:Int}(a:Int),vp R->(∀x∈R,b<=x)->R.length<=G R a b
 | [],_,_,_,_=>bN _
 | x::R,b,a,h,hb=>by
  have h':=bT.mp h;have:=one_up a h'.2 h'.1;have:=L2 R a<|hb x<|aM ..;rw[bz];lia
theorem Iw:∀{R w:ag}{a b:Int}{k:Nat},vp R->(∀x∈R,a<=x)->(∀c,k<=G w c b)->R.length+k<=G (R++w) a b
 | [],w,a,b,k,_,_,hk=>by have:=hk a;simpa using this
 | x::R,w,a,b,k,h,ha,hk=>by
  have h':=bT.mp h;have:=Iw h'.2 h'.1 hk;have:G (R++w) x b+1<=G (x::R++w) a b:=L1 (R++w) b<|ha x<|aM ..;rw[bz];lia
theorem Av:∀{R w:ag}{a:Int},vp R->C gt (R++w) a<=C gt w a+1/\((∀x∈R,a<=x)->C gt (R++w) a<=C gt w a)
 | [],w,a,_=>⟨le_succ _,λ_=>aP _⟩
 | x::R,w,a,h=>by
  have h':=bT.mp h;have d:=Av (w:=w) (a:=a) h'.2;refine⟨Ke d.1 λp=>?_,λf=>Ke (d.2 λy hy=>f y<|aN _ hy) λp=>by have:=f x<|aM ..;lia⟩;have:=(Av (w:=w) (a:=x) h'.2).2 h'.1;have:=xO w (show x<=a by lia);show C gt (R++w) x+1<=_
  lia
theorem dn:∀{T:List<|ag}{w:ag}{a:Int},jM T->C gt (plain T++w) a<=C gt w a+T.length
 | [],w,a,_=>aP _
 | R::T,w,a,h=>by
  rw[iQ,bg];have:=dn (T:=T) (w:=R++w) (a:=a) h.2.2.2;have:=(Av (w:=w) (a:=a) h.2.1).1;rw[bz];lia
theorem Lk:∀(u:ag) {w:ag}(a:Int),C gt w a<=C gt (u++w) a
 | [],_,_=>aP _
 | x::u,w,a=>bH (Lk u a)<|K0 x (u++w) a
theorem LO:∀{T:List<|ag}{w:ag}{a:Int}{k:Nat},jM T->(∀x∈plain T,x<a)->(∀x,(∀r,T.head?=some r->r.head?=some x)->(T=[]->x=a)->k<=C gt w x)->T.length+k<=C gt (plain T++w) a
 | [],w,a,k,_,_,hk=>by have:=hk a (λr h=>by cases h) λ_=>rfl;rw[eg,gX];exact this
 | []::T,w,a,k,h,_,_=>absurd rfl h.1
 | (y::R)::T,w,a,k,h,ha,hk=>by
  rw[iQ,bg];have hy:y<a:=ha y (by rw[iQ];exact bA.2<|.inr<|aM ..);have:=LO (T:=T) (w:=(y::R)++w) (a:=a) (k:=k+1) h.2.2.2 (λx hx=>ha x<|by rw[iQ];exact bA.2<|.inl hx) λx h1 h2=>by
   have lt:y<x:=by
    cases T with
    | nil=>have:=h2 rfl;lia
    | cons u T=>
     have f:=h.2.2.1 u rfl;have e:=h1 u rfl;exact f.2 0 y x rfl<|by rw[<- e,fO]
   have:=hk y (λr hr=>by cases hr;rfl) λe=>by cases e
   have:=K1 (R++w) lt;have:=Lk R (w:=w) y;show k+1<=C gt (y::(R++w)) x
   lia
  rw[bz];lia
def OS(T:List<|ag):T=[]\/(∃R,T=[R])\/∃R U T',T=R::U::T':=by
 cases T with
 | nil=>exact .inl rfl
 | cons R T=>
  cases T with
  | nil=>exact .inr (.inl ⟨R,rfl⟩)
  | cons U T=>exact .inr<|.inr ⟨R,U,T,rfl⟩
def GK{T:List<|ag}(h:jM T)(h1:∀x∈plain T,0<=x):G (plain T) 0 0=(T.getD 0 []).length+(T.getD 1 []).length:=by
 refine dw (up _ (G0 h) (aP _) 0 0).1 ?_
 rcases OS T with rfl|⟨R,rfl⟩|⟨R,U,d,rfl⟩
 ·exact aP _
 ·rw[iQ];exact bH (one_up 0 h.2.1 λx hx=>h1 x<|by rw[iQ];exact bA.2<|.inr hx) (skip (plain []) 0 0)
 ·rw[iQ,iQ,bg];refine bH ?_<|skip (plain d) 0 0;show R.length+U.length<=_;have:=Iw (w:=R) (b:=0) (k:=R.length) h.2.2.2.2.1 (λx hx=>h1 x<|by rw[iQ,iQ];exact bA.2<|.inl<|bA.2<|.inr hx) λc=>one_up c h.2.1 λx hx=>h1 x (by rw[iQ];exact bA.2<|.inr hx)
  lia
def Kg{T:List<|ag}{M:Int}(h:jM T)(h1:∀x∈plain T,0<=x/\x<M):G (plain T) 0 M=(T.getD 0 []).length:=by
 refine dw ((up _ (G0 h) (aP _) 0 M).2 λx hx=>(h1 x hx).2) ?_
 cases T with
 | nil=>exact bN _
 | cons R T=>
  rw[iQ];have:=one_up M h.2.1 λx hx=>(h1 x<|by rw[iQ];exact bA.2<|.inr hx).1;rw[qf]at this;exact bH this<|skip (plain T) 0 M
def rows{T:List<|ag}{M:Int}(h:jM T)(h1:∀x∈plain T,x<M):C gt (plain T) M=T.length:=by
 have a:=dn (w:=[]) (a:=M) h;have b:=LO (w:=[]) (k:=0) h h1 λ_ _ _=>bN _;rw[bJ]at a b;have:C gt [] M=0:=rfl
 lia
theorem xE:∀{w:ag}{M:Int},(∀x∈w,x<M)->∀a,G w a M=C le w a
 | [],_,_,_=>rfl
 | x::w,M,h,a=>by
  have hx:=h x<|aM ..;have d:=xE λy hy=>h y<|aN _ hy;rw[lI,mP,aU<|show ¬M<=x by lia,d,d];by_cases q:a<=x
  ·rw[aR q,aR<|le_iff.2 q];lia
  ·rw[aU q,aU λz=>q<|le_iff.1 z];lia
def DX{w:ag}{x:Int}(h:x∈plain (w.foldl put [])):x∈w:=by
 refine(Kc.FZ w).mem_iff.1 ?_;obtain⟨r,hr,hx⟩:=cE.1 h;exact cE.2 ⟨r,gV.1 hr,hx⟩
def main{w:ag}{M:Int}(h:∀x∈w,0<=x/\x<M){T:List<|ag}(e:w.foldl put []=T) :
  C le w 0=(T.getD 0 []).length/\C gt w M=T.length/\G w 0 0=(T.getD 0 []).length+(T.getD 1 []).length:=by
 subst e;have d:jM (w.foldl put []):=se w trivial;have hm:∀x∈plain (w.foldl put []),0<=x/\x<M:=λx hx=>h x<|DX hx;refine⟨?_,?_,?_⟩
 ·rw[<- xE (λx hx=>(h x hx).2),(word w).1,Kg d hm]
 ·rw[(word w).2,rows d λx hx=>(hm x hx).2]
 ·rw[(word w).1,GK d λx hx=>(hm x hx).1]
end Gn
namespace Gn
abbrev hr (r:Int->Int->Bool)(w B:ag)(k:Nat):Nat->Int
 | 0=>1
 | i+1=>if r (w.getD i 0) (w.getD k 0)=true then(if B.getD i 0+1>hr r w B k i then B.getD i 0+1 else hr r w B k i)else hr r w B k i
abbrev bs (r:Int->Int->Bool)(w:ag):Nat->ag
 | 0=>[]
 | k+1=>bs r w k++[hr r w (bs r w k) k k]
theorem nv(r:Int->Int->Bool)(w:ag):∀k,(bs r w k).length=k
 | 0=>rfl
 | k+1=>by show(bs r w k++[_]).length=_;rw[aY,nv r w k];rfl
def EJ{r:Int->Int->Bool}{w:ag}{k:Nat}(h:j<k):(bs r w<|k+1).getD j 0=(bs r w k).getD j 0:=by
 show(bs r w k++[_]).getD j 0=_;rw[aI,aS<|by rw[nv];exact h,aI]
def xK{r:Int->Int->Bool}{w:ag}{k:Nat}:(bs r w<|k+1).getD k 0=hr r w (bs r w k) k k:=by
 show(bs r w k++[_]).getD k 0=_;rw[aI,b9<|by rw[nv];exact aP _,nv,bW];rfl
theorem LW{r:Int->Int->Bool}{w B:ag}{k:Nat}:∀i,1<=hr r w B k i/\(∀j,j<i->r (w.getD j 0) (w.getD k 0)=true->B.getD j 0+1<=hr r w B k i)/\(hr r w B k i=1\/∃j,j<i/\r (w.getD j 0) (w.getD k 0)=true/\hr r w B k i=B.getD j 0+1)
 | 0=>⟨c6 _,λj h=>absurd h<|cM _,.inl rfl⟩
 | i+1=>by
  obtain⟨a,b,c⟩:=LW (r:=r) (w:=w) (B:=B) (k:=k) i;have e:hr r w B k (i+1)=if r (w.getD i 0) (w.getD k 0)=true then(if B.getD i 0+1>hr r w B k i then B.getD i 0+1 else hr r w B k i)else hr r w B k i:=rfl
  by_cases q:r (w.getD i 0) (w.getD k 0)=true
  ·rw[aR q]at e;by_cases g:B.getD i 0+1>hr r w B k i
   ·rw[aR g]at e;rw[e];refine⟨(),λj f d=>?_,.inr ⟨i,bD _,q,rfl⟩⟩
    rcases dN.1 f with z|z
    ·have:=b j z d;lia
    ·subst z;exact c6 _
   ·rw[aU g]at e;rw[e];refine⟨a,λj f d=>?_,c.imp id λ⟨j,h1,h2⟩=>⟨j,gI h1,h2⟩⟩
    rcases dN.1 f with z|z
    ·exact b j z d
    ·subst z;lia
  ·rw[aU q]at e;rw[e];refine⟨a,λj f d=>?_,c.imp id λ⟨j,h1,h2⟩=>⟨j,gI h1,h2⟩⟩
   rcases dN.1 f with z|z
   ·exact b j z d
   ·subst z;exact absurd d q
def kE{w:ag}{k:Nat}(h:k<w.length):w.drop k=w.getD k 0::w.drop (k+1):=by
 rw[bV h,aI,aH h];rfl
def Rw{r:Int->Int->Bool}{x:Int}{v:ag}(a:Int):C r v a<=C r (x::v) a:=by rw[mP];lia
def P9{r:Int->Int->Bool}{x a:Int}{v:ag}(h:r a x=true):C r v x+1<=C r (x::v) a:=by rw[mP,aR h];lia
def Qh(r:Int->Int->Bool)(x:Int)(v:ag)(a:Int):C r (x::v) a=C r v a\/(r a x=true/\C r (x::v) a=C r v x+1):=by
 rw[mP];by_cases h:r a x=true
 ·rw[aR h];by_cases g:C r v x+1<=C r v a
  ·left;lia
  ·right;exact⟨h,()⟩
 ·rw[aU h];left;lia
theorem long{r:Int->Int->Bool}{w:ag}{a0:Int}(h0:∀x∈w,r a0 x=true):∀k,k<=w.length ->
  (∀j,j<k->(bs r w k).getD j 0+C r (w.drop k) (w.getD j 0)<=C r w a0)/\C r (w.drop k) a0<=C r w a0/\(C r (w.drop k) a0=C r w a0\/∃j,j<k/\(bs r w k).getD j 0+C r (w.drop k) (w.getD j 0)=C r w a0)
 | 0,_=>⟨λj h=>absurd h<|cM _,aP _,.inl rfl⟩
 | k+1,h=>by
  obtain⟨a,b,c⟩:=long h0 k ();obtain⟨p,q,s⟩:=LW (r:=r) (w:=w) (B:=bs r w k) (k:=k) k;have e:=kE (w:=w) (k:=k) h;have hx:r a0 (w.getD k 0)=true:=h0 _ (by rw[aI,aH h];exact cO h);rw[e]at a b c;have up:=λy=>Rw (r:=r) (x:=w.getD k 0) (v:=w.drop<|k+1) y;have i0:=P9 (v:=w.drop<|k+1) hx;have all:∀j,j<k+1->(bs r w<|k+1).getD j 0+C r (w.drop<|k+1) (w.getD j 0)<=C r w a0:=λj g=>by
   rcases dN.1 g with z|z
   ·rw[EJ z];have:=a j z;have:=up<|w.getD j 0;lia
   ·subst z;rw[xK]
    rcases s with s|⟨i,f,F,G⟩
    ·lia
    ·have:=a i f;have:=P9 (v:=w.drop<|j+1) F;lia
  refine⟨all,bH (up a0) b,?_⟩;have t:=all k<|bD _;rw[xK]at t
  rcases c with c|⟨j,d,c⟩
  ·rcases Qh r (w.getD k 0) (w.drop<|k+1) a0 with z|⟨_,z⟩
   ·exact .inl ()
   ·exact .inr ⟨k,bD _,by rw[xK];lia⟩
  ·rcases Qh r (w.getD k 0) (w.drop<|k+1) (w.getD j 0)with z|⟨m,z⟩
   ·exact .inr ⟨j,(),by rw[EJ d];lia⟩
   ·have:=q j d m;exact .inr ⟨k,bD _,by rw[xK];lia⟩
def best{r:Int->Int->Bool}{w:ag}{a0 m:Int}(h0:∀x∈w,r a0 x=true)(h1:m∈0::bs r w w.length)(h2:∀a∈0::bs r w w.length,a<=m):m=C r w a0:=by
 obtain⟨a,b,c⟩:=long h0 w.length<|aP _;rw[f7]at a b c;have z:∀y,C r [] y=0:=λ_=>rfl;dsimp[z]at a b c;have f:∀j,j<w.length->(bs r w w.length).getD j 0∈bs r w w.length:=λj d=>by
  rw[aI,aH<|by rw[nv];exact d];exact cO _
 have up:m<=C r w a0:=by
  rcases a_.1 h1 with e|e
  ·lia
  ·obtain⟨j,d,e⟩:=dF.1 e;rw[nv]at d;have:=a j d;rw[aI,aH<|by rw[nv];exact d,dR,e]at this
   lia
 have k:=h2 0 (aM ..)
 rcases c with c|⟨j,g,c⟩
 ·lia
 ·have:=h2 _<|aN _<|f j g;lia
meta abbrev En:=(Int×Int)×Int
abbrev lk (e:List En)(k:Int×Int):bj:=(e.find? λp=>decide<|p.1=k).map (·.2)
abbrev pt (e:List En)(k:Int×Int)(m:Int):List En:=if (lk e k).isSome=true then e.map (λp=>if p.1=k then(p.1,m)else p)else e++[(k,m)]
abbrev up' (e:List En)(k:Int×Int)(m:Int):List En:=if (lk e k).getD 0<m then pt e k m else e
abbrev t1 (x:Int)(e:List En)(p:En):List En:=if p.1.1<=x then up' e (x,p.1.2) (p.2+1)else e
abbrev tr (x:Int)(e:List En)(p:En):List En:=if p.1.2<=x then up' (t1 x e p) (p.1.1,x) (p.2+1)else t1 x e p
abbrev nx (x:Int)(H:List En):List En:=H.foldl (tr x) H
def l6(p:En)(e:List En)(k:Int×Int):lk (p::e) k=if p.1=k then some p.2 else lk e k:=by
 unfold lk;rw[cz];by_cases h:p.1=k
 ·rw[bu h,aR h];rfl
 ·rw[bw h,aU h]
theorem Bq{k:Int×Int}:∀{e:List En},lk e k=none->k∉e.map (·.1)
 | [],_,h=>by cases h
 | p::e,h,z=>by
  rw[l6]at h;by_cases q:p.1=k
  ·rw[aR q]at h;cases h
  ·rw[aU q]at h
   rcases a_.1 z with z|z
   ·exact q z.symm
   ·exact Bq h z
theorem wL{k:Int×Int}{m:Int}:∀{e:List En},lk e k=some m->(k,m)∈e
 | [],h=>by cases h
 | p::e,h=>by
  rw[l6]at h;by_cases q:p.1=k
  ·rw[aR q]at h;cases h;subst q;exact aM ..
  ·rw[aU q]at h;exact aN _<|wL h
theorem y_{k:Int×Int}{m:Int}:∀{e:List En},(e.map (·.1)).Nodup->(k,m)∈e->lk e k=some m
 | [],_,h=>by cases h
 | p::e,nd,h=>by
  rw[bC,bO]at nd;rw[l6]
  rcases a_.1 h with z|z
  ·subst z;exact aR rfl
  ·rw[aU λq=>nd.1<|by rw[q];exact bK.2 ⟨_,z,rfl⟩];exact y_ nd.2 z
theorem B4{k:Int×Int}{q:En}:∀{e:List En},lk (e++[q]) k=(lk e k).or (if q.1=k then some q.2 else none)
 | []=>by rw[gh,l6];rfl
 | p::e=>by
  rw[fY,l6,l6,B4];by_cases h:p.1=k
  ·rw[aR h,aR h];rfl
  ·rw[aU h,aU h]
theorem EK{k j:Int×Int}{m:Int}:∀{e:List En},lk (e.map λp=>if p.1=k then(p.1,m)else p) j=if j=k then(lk e j).map λ_=>m else lk e j
 | []=>by split<;>rfl
 | p::e=>by
  rw[bC,l6,l6,EK];by_cases h:p.1=k
  ·rw[aR h];by_cases g:p.1=j
   ·rw[aR g,aR g,aR<|g.symm.trans h];rfl
   ·rw[aU g,aU g]
  ·rw[aU h];by_cases g:p.1=j
   ·rw[aR g,aR g,aU λz=>h<|g.trans z]
   ·rw[aU g,aU g]
def CF(e:List En)(k j:Int×Int)(m:Int):lk (pt e k m) j=if j=k then some m else lk e j:=by
 unfold pt;by_cases h:(lk e k).isSome=true
 ·rw[aR h,EK];by_cases g:j=k
  ·subst g;rw[aR rfl,aR rfl];obtain⟨z,d⟩:=cR.1 h;rw[d];rfl
  ·rw[aU g,aU g]
 ·rw[aU h,B4];by_cases g:j=k
  ·subst g;rw[aR rfl,aR rfl]
   cases z:lk e j with
   | none=>rfl
   | some y=>rw[z]at h;exact absurd rfl h
  ·rw[aU<|b_ g,aU g,Option.or_none]
def yT(e:List En)(k:Int×Int)(m:Int):(e.map λp=>if p.1=k then(p.1,m)else p).map (·.1)=e.map (·.1):=by
 rw[bL];refine eY λp _=>?_;show(if p.1=k then(p.1,m)else p).1=p.1;split<;>rfl
def Qd{e:List En}{k:Int×Int}{m:Int}(h:(e.map (·.1)).Nodup):((pt e k m).map (·.1)).Nodup:=by
 unfold pt;by_cases g:(lk e k).isSome=true
 ·rw[aR g,yT];exact h
 ·rw[aU g,bU,cH];refine⟨h,cW ..,λa d b hb q=>?_⟩;have hb:b=k:=by simpa using hb
  subst hb q;exact Bq (by simpa using g) d
def Ow{e:List En}{k j:Int×Int}{m:Int}(h:j∈(pt e k m).map (·.1)):j=k\/j∈e.map (·.1):=by
 unfold pt at h;by_cases g:(lk e k).isSome=true
 ·rw[aR g,yT]at h;exact .inr h
 ·rw[aU g,bU]at h
  rcases bA.1 h with h|h
  ·exact .inr h
  ·exact .inl<|by simpa using h
abbrev Ge (e:List En)(k:Int×Int)(m:Int):Prop:=∃m',lk e k=some m'/\m<=m'
structure Up (S:Int->Prop)(val:Int×Int->Int)(N:Int)(e:List En):Prop where
 nd:(e.map (·.1)).Nodup
 ks:∀k∈e.map (·.1),S k.1/\S k.2
 le:∀k m,lk e k=some m->0<=m/\m+val k<=N
def LP{S:Int->Prop}{val:Int×Int->Int}{N:Int}{k:Int×Int}{m:Int}(h:Up S val N e)(J:S k.1/\S k.2)(hm:1<=m)(hv:m+val k<=N) :
  Up S val N (up' e k m)/\Ge (up' e k m) k m/\∀k' m',Ge e k' m'->Ge (up' e k m) k' m':=by
 unfold up';by_cases g:(lk e k).getD 0<m
 ·rw[aR g];refine⟨⟨Qd h.nd,λk' f=>?_,λk' m' d=>?_⟩,⟨m,by rw[CF,aR rfl],c6 _⟩,λk' m' ⟨z,j,t⟩=>?_⟩
  ·rcases Ow f with q|q
   ·rw[q];exact J
   ·exact h.ks k' q
  ·rw[CF]at d;by_cases q:k'=k
   ·rw[aR q]at d;cases d;subst q;exact⟨(),hv⟩
   ·rw[aU q]at d;exact h.le k' m' d
  ·by_cases q:k'=k
   ·subst q;rw[j]at g;have g:z<m:=g;exact⟨m,by rw[CF,aR rfl],()⟩
   ·exact⟨z,by rw[CF,aU q];exact j,t⟩
 ·rw[aU g];refine⟨h,?_,λ_ _ z=>z⟩
  cases e1:lk e k with
  | none=>rw[e1]at g;have g:¬(0:Int)<m:=g;lia
  | some z=>rw[e1]at g;have g:¬z<m:=g;exact⟨z,e1,()⟩
def Rj(x:Int)(v:ag)(a b:Int):G (x::v) a b=G v a b\/(a<=x/\G (x::v) a b=G v x b+1)\/(b<=x/\G (x::v) a b=G v a x+1):=by
 rw[lI];by_cases h:a<=x<;>by_cases h':b<=x<;>dsimp[h,h',d8,cY,true_and,false_and,or_false,false_or]<;>lia
abbrev vl (v:ag)(k:Int×Int):Int:=(G v k.1 k.2:Int)
def OJ{S:Int->Prop}{N x:Int}{v:ag}{p:En}(h:Up S (vl v) N e)(hx:S x)(hp:S p.1.1/\S p.1.2)(j:0<=p.2)(pv:p.2+vl (x::v) p.1<=N) :
  Up S (vl v) N (tr x e p)/\(p.1.1<=x->Ge (tr x e p) (x,p.1.2) (p.2+1))/\(p.1.2<=x->Ge (tr x e p) (p.1.1,x) (p.2+1))/\∀k' m',Ge e k' m'->Ge (tr x e p) k' m':=by
 have one:Up S (vl v) N (t1 x e p)/\(p.1.1<=x->Ge (t1 x e p) (x,p.1.2) (p.2+1))/\∀k' m',Ge e k' m'->Ge (t1 x e p) k' m':=by
  unfold t1;by_cases q:p.1.1<=x
  ·rw[aR q];obtain⟨a,b,c⟩:=LP (k:=(x,p.1.2)) (m:=p.2+1) h ⟨hx,hp.2⟩ () (by
    have:=L1 v p.1.2 q;unfold vl at *
    show p.2+1+(G v x p.1.2:Int)<=N
    lia)
   exact⟨a,λ_=>b,c⟩
  ·rw[aU q];exact⟨h,λz=>absurd z q,λ_ _ z=>z⟩
 obtain⟨h1,g1,m1⟩:=one;unfold tr;by_cases q:p.1.2<=x
 ·rw[aR q];obtain⟨a,b,c⟩:=LP (k:=(p.1.1,x)) (m:=p.2+1) h1 ⟨hp.1,hx⟩ () (by
   have:=L2 v p.1.1 q;unfold vl at *
   show p.2+1+(G v p.1.1 x:Int)<=N
   lia)
  exact⟨a,λz=>c _ _<|g1 z,λ_=>b,λk' m' z=>c _ _<|m1 k' m' z⟩
 ·rw[aU q];exact⟨h1,g1,λz=>absurd z q,m1⟩
theorem Aa{S:Int->Prop}{N x:Int}{v:ag}(hx:S x):∀{P:List En}{e:List En},Up S (vl v) N e->(∀p∈P,(S p.1.1/\S p.1.2)/\0<=p.2/\p.2+vl (x::v) p.1<=N) ->
  Up S (vl v) N (P.foldl (tr x) e)/\(∀p∈P,(p.1.1<=x->Ge (P.foldl (tr x) e) (x,p.1.2) (p.2+1))/\(p.1.2<=x->Ge (P.foldl (tr x) e) (p.1.1,x) (p.2+1)))/\∀k' m',Ge e k' m'->Ge (P.foldl (tr x) e) k' m'
 | [],e,h,_=>⟨h,λp hp=>(nomatch hp),λ_ _ z=>z⟩
 | p::P,e,h,hP=>by
  obtain⟨C,g,j⟩:=hP p<|aM ..;obtain⟨k,m,t,B⟩:=OJ h hx C g j;obtain⟨c1,c2,f⟩:=Aa hx k λq d=>hP q<|aN _ d;rw[List.foldl_cons];refine⟨c1,λq d=>?_,λk' m' z=>f k' m'<|B k' m' z⟩
  rcases a_.1 d with z|z
  ·subst z;exact⟨λy=>f _ _<|m y,λy=>f _ _<|t y⟩
  ·exact c2 q z
structure Best (S:Int->Prop)(N:Int)(v:ag)(H:List En):Prop where
 up:Up S (vl v) N H
 at_:∃k m,lk H k=some m/\m+vl v k=N
def Up.ent{S:Int->Prop}{val:Int×Int->Int}{N:Int}{e:List En}(h:Up S val N e){p:En}(hp:p∈e):(S p.1.1/\S p.1.2)/\0<=p.2/\p.2+val p.1<=N:=
 ⟨h.ks _<|bK.2 ⟨p,hp,rfl⟩,h.le _ _<|y_ h.nd hp⟩
def Pe{S:Int->Prop}{N x:Int}{v:ag}{H:List En}(h:Best S N (x::v) H)(hx:S x):Best S N v (nx x H):=by
 have j:Up S (vl v) N H:=⟨h.up.nd,h.up.ks,λk m e=>by
  have:=h.up.le k m e;have:=L0 x v k.1 k.2;unfold vl at *
  lia⟩
 obtain⟨a,b,c⟩:=Aa (v:=v) hx j λp hp=>h.up.ent hp;refine⟨a,?_⟩;obtain⟨k,m,e,q⟩:=h.at_;have d:∀f m',Ge (nx x H) f m'->m'+vl v f=N->∃k m,lk (nx x H) k=some m/\m+vl v k=N:=λf m' ⟨z,t,B⟩ C=>⟨f,z,t,by have:=(a.le f z t).2;lia⟩;have hp:=wL e;unfold vl at q
 rcases Rj x v k.1 k.2 with g|⟨g1,g⟩|⟨g1,g⟩
 ·exact d k m (c k m ⟨m,e,c6 _⟩) (by unfold vl;lia)
 ·exact d _ _ ((b _ hp).1 g1) (by unfold vl;show m+1+(G v x k.2:Int)=N;lia)
 ·exact d _ _ ((b _ hp).2 g1)<|by unfold vl;show m+1+(G v k.1 x:Int)=N;lia
def hd0{S:Int->Prop}(h0:S 0)(v:ag):Best S (G v 0 0) v [((0,0),0)]:=by
 refine⟨⟨cW ..,λk d=>?_,λk m e=>?_⟩,(0,0),0,rfl,by show(0:Int)+(G v 0 0:Int)=_;lia⟩
 ·have q:k=(0,0):=br.1 d;subst q;exact⟨h0,h0⟩
 ·have q:(k,m)=((0,0),0):=br.1 (wL e)
  cases q
  exact⟨c6 _,by show(0:Int)+(G v 0 0:Int)<=_;lia⟩
def top{S:Int->Prop}{N:Int}{H:List En}(b:Best S N [] H){m:Int}(h1:m∈H.map (·.2))(h2:∀a∈H.map (·.2),a<=m):m=N:=by
 obtain⟨k,n,e,q⟩:=b.at_;obtain⟨p,hp,rfl⟩:=bK.1 h1;have u:=(b.up.ent hp).2.2;have l:=h2 n<|bK.2 ⟨_,wL e,rfl⟩;have z:∀k,vl [] k=0:=λ_=>rfl;rw[z]at u q
 lia
end Gn
namespace Th
def par {H L X Y S T:Int}(f1:14029467366897019727 * X=8589934592 * H+L+18446744073709551616 * S)(f2:14029467366897019727 * Y=18446744073709551616 * T-11400714785074694791 * (2147483648 * L+H)) :
  ∃s t:Int,X=3250076511083954176 * H+839798700976720815 * L+18446744073709551616 * s/\Y=18131465553559158967 * H+11281517459552600064 * L+18446744073709551616 * t:=by
 have g1:X=839798700976720815 * (14029467366897019727 * X)-11781928470115413001220516028826517504 * X:=by omega
 have g2:Y=839798700976720815 * (14029467366897019727 * Y)-11781928470115413001220516028826517504 * Y:=by omega
 rw[f1]at g1;rw[f2]at g2;clear f1 f2;exact⟨839798700976720815 * S-638699622168397319 * X+391061744 * H,839798700976720815 * T-638699622168397319 * Y-519024139352440027 * H-1114595852176638264772398099 * L,g1.trans<|by clear g1 g2;omega,g2.trans<|by clear g1 g2;omega⟩
def lat {H L X Y S T:Int}(e1:14029467366897019727 * X=8589934592 * H+L+18446744073709551616 * S)(e2:14029467366897019727 * Y=18446744073709551616 * T-11400714785074694791 * (2147483648 * L+H)) :
  ∃n0 n1 n2 n3:Int,H=- 2450766760 * n0+2123783508 * n1+1950159432 * n2-4575840819 * n3/\L=- 4242304441 * n0-13313502988 * n1+4536215886 * n2-5183213341 * n3/\X=1011272585 * n0-659352884 * n1-1082452398 * n2-1191662547 * n3/\Y=920967912 * n0-604195060 * n1+1755844984 * n2-420186741 * n3:=by
 obtain⟨s,t,rfl,rfl⟩:=par e1 e2;clear e1 e2;exact⟨7784982497 * H+4479345825 * L+5686841676 * s+6900981546 * t,149822886 * H+172386789 * L-1235055683 * s+373812579 * t,5916852691 * H+3986570727 * L-4759283498 * s+6872842267 * t,- 1578328259 * H-620054596 * L-5647371940 * s-593478036 * t,by omega,by omega,by omega,by omega⟩
def small {H L X Y S T:Int}(e1:14029467366897019727 * X=8589934592 * H+L+18446744073709551616 * S)(e2:14029467366897019727 * Y=18446744073709551616 * T-11400714785074694791 * (2147483648 * L+H))
  (h1:-2147483648<H) (h2:H<2147483648) (M:-8589934592<L) (U:L<8589934592) (Z:-1000000000<=X) (x2:X<=1000000000) (y1:-1000000000<=Y) (y2:Y<=1000000000):H=0/\L=0/\X=0/\Y=0:=by
 obtain⟨J,B,t,z,j,k,g,m⟩:=lat e1 e2;clear e1 e2;have f:9223372036854775808 * J=- 610198403 * H-394750842 * L+2843420838 * X+3450490773 * Y:=by omega
 have d1:18446744073709551616 * B=1530220091 * H-1097262387 * L-1235055683 * X+373812579 * Y:=by omega
 have d2:18446744073709551616 * t=588328115 * H+17650614 * L-4759283498 * X+6872842267 * Y:=by omega
 have d:4611686018427387904 * z=- 604186573 * H-19725433 * L-1411842985 * X-148369509 * Y:=by omega
 have F:B=0:=by
  have u:18446744073709551616 * B<18446744073709551616:=by rw[d1];clear j k g m f d1 d2 d;omega
  have w:-18446744073709551616<18446744073709551616 * B:=by rw[d1];clear j k g m f d1 d2 d u;omega
  clear j k g m f d1 d2 d;omega
 have C:t=0:=by
  have u:18446744073709551616 * t<18446744073709551616:=by rw[d2];clear j k g m f d1 d2 d;omega
  have w:-18446744073709551616<18446744073709551616 * t:=by rw[d2];clear j k g m f d1 d2 d u;omega
  clear j k g m f d1 d2 d;omega
 have G:z=0:=by
  have u:4611686018427387904 * z<4611686018427387904:=by rw[d];clear j k g m f d1 d2 d;omega
  have w:-4611686018427387904<4611686018427387904 * z:=by rw[d];clear j k g m f d1 d2 d u;omega
  clear j k g m f d1 d2 d;omega
 subst F C G;clear f d1 d2 d;omega
def none {H L X Y S T:Int}(e1:14029467366897019727 * X=8589934592 * H+L+18446744073709551616 * S-2870177450012600261)(e2:14029467366897019727 * Y=9148689060682678900+18446744073709551616 * T-11400714785074694791 * (2147483648 * L+H))
  (h1:0<=H) (h2:H<2147483648) (M:0<=L) (U:L<8589934592) (Z:0<=X) (x2:X<=1000000000) (y1:0<=Y) (y2:Y<=1000000000):False:=by
 obtain⟨C,B,t,z,j,k,g,m⟩:=lat (H:=H+796601469) (L:=L-2668123244) (X:=X-(1139847977)) (Y:=Y-(436116465)) (S:=S-866898784) (T:=T-3541180877351707623) (by rw[mul_sub,e1];clear e1 e2;omega) (by rw[mul_sub,e2];clear e1 e2;omega);clear e1 e2;have d:9223372036854775808 * C=- 610198403 * H-394750842 * L+2843420838 * X+3450490773 * Y-4178724375472304730:=by omega
 have d1:18446744073709551616 * B=1530220091 * H-1097262387 * L-1235055683 * X+373812579 * Y+5391356753129427163:=by omega
 have d2:18446744073709551616 * t=588328115 * H+17650614 * L-4759283498 * X+6872842267 * Y+2849069020356886510:=by omega
 have f:4611686018427387904 * z=- 604186573 * H-19725433 * L-1411842985 * X-148369509 * Y+1245326730756145945:=by omega
 have J:C=0:=by
  have u:9223372036854775808 * C<9223372036854775808:=by rw[d];clear j k g m d d1 d2 f;omega
  have w:-9223372036854775808<9223372036854775808 * C:=by rw[d];clear j k g m d d1 d2 f u;omega
  clear j k g m d d1 d2 f;omega
 have G:B=0:=by
  have u:18446744073709551616 * B<18446744073709551616:=by rw[d1];clear j k g m d d1 d2 f;omega
  have w:-18446744073709551616<18446744073709551616 * B:=by rw[d1];clear j k g m d d1 d2 f u;omega
  clear j k g m d d1 d2 f;omega
 have F:t=0:=by
  have u:18446744073709551616 * t<18446744073709551616:=by rw[d2];clear j k g m d d1 d2 f;omega
  have w:-18446744073709551616<18446744073709551616 * t:=by rw[d2];clear j k g m d d1 d2 f u;omega
  clear j k g m d d1 d2 f;omega
 have K:z=0:=by
  have u:4611686018427387904 * z<4611686018427387904:=by rw[f];clear j k g m d d1 d2 f;omega
  have w:-4611686018427387904<4611686018427387904 * z:=by rw[f];clear j k g m d d1 d2 f u;omega
  clear j k g m d d1 d2 f;omega
 subst J G F K;clear d d1 d2 f;omega
end Th
namespace Th
open PySem
@[irreducible] noncomputable def rt (t:Nat):Nat:=(t * 2147483648) % 18446744073709551616+t / 8589934592
@[irreducible] noncomputable def st (a x:Nat):Nat:=(rt ((a+x * 14029467366897019727) % 18446744073709551616) * 11400714785074694791) % 18446744073709551616
theorem Cb {t:Nat}(h:t<18446744073709551616):rt t=2147483648 * (t % 8589934592)+t / 8589934592:=by unfold rt;omega
def Ft {t:Nat}(h:t<18446744073709551616):rt t<18446744073709551616:=by rw[Cb h];omega
def Es {t u:Nat}(h:t<18446744073709551616)(h':u<18446744073709551616)(e:rt t=rt u):t=u:=by rw[Cb h,Cb h']at e;omega
def zI {r:Nat}(h:r<18446744073709551616):((r * 11400714785074694791) % 18446744073709551616 * 614540362697595703) % 18446744073709551616=r:=by
 rw[Nat.mod_mul_mod,Nat.mul_assoc,show 11400714785074694791 * 614540362697595703=1+18446744073709551616 * 379806830464837242 from rfl,Nat.mul_add,Nat.mul_one,Nat.mul_comm 18446744073709551616,<- Nat.mul_assoc,Nat.add_mul_mod_self_right,Nat.mod_eq_of_lt h]
def JD {r u:Nat}(h:r<18446744073709551616)(h':u<18446744073709551616)(e:(r * 11400714785074694791) % 18446744073709551616=(u * 11400714785074694791) % 18446744073709551616):r=u:=by rw[<- zI h,e,zI h']
def GH (a x:Nat):st a x<18446744073709551616:=by unfold st;exact ee _ ⋯
def Oi {a x b y:Nat}(e:st a x=st b y):(a+x * 14029467366897019727) % 18446744073709551616=(b+y * 14029467366897019727) % 18446744073709551616:=by
 unfold st at e;exact Es (ee _ ⋯) (ee _ ⋯)<|JD (Ft<|ee _ ⋯) (Ft<|ee _ ⋯) e
def one (x:Nat):∃h l S Q:Nat,h<2147483648/\l<8589934592/\(14029467366897019727:Int) * x=8589934592 * h+l+18446744073709551616 * S-2870177450012600261/\(st 2870177450012600261 x:Int)=(2147483648 * (l:Int)+h) * 11400714785074694791-18446744073709551616 * Q:=by
 have f:(2870177450012600261+x * 14029467366897019727) % 18446744073709551616<18446744073709551616:=ee _ ⋯;refine⟨(2870177450012600261+x * 14029467366897019727) % 18446744073709551616 / 8589934592,(2870177450012600261+x * 14029467366897019727) % 18446744073709551616 % 8589934592,(2870177450012600261+x * 14029467366897019727) / 18446744073709551616,rt ((2870177450012600261+x * 14029467366897019727) % 18446744073709551616) * 11400714785074694791 / 18446744073709551616,by omega,by omega,?_,?_⟩
 ·have:=fy (2870177450012600261+x * 14029467366897019727) 18446744073709551616;generalize(2870177450012600261+x * 14029467366897019727) / 18446744073709551616=S at *
  generalize(2870177450012600261+x * 14029467366897019727) % 18446744073709551616=A at *
  omega
 ·have e:=fy (rt ((2870177450012600261+x * 14029467366897019727) % 18446744073709551616) * 11400714785074694791) 18446744073709551616;have e2:=Cb f;unfold st;generalize rt ((2870177450012600261+x * 14029467366897019727) % 18446744073709551616)=r at *
  generalize(2870177450012600261+x * 14029467366897019727) % 18446744073709551616=A at *
  generalize r * 11400714785074694791 / 18446744073709551616=Q at *
  have d:((r * 11400714785074694791 % 18446744073709551616:Nat):Int)=(r:Int) * 11400714785074694791-18446744073709551616 * Q:=by
   generalize r * 11400714785074694791 % 18446744073709551616=z at *
   omega
  rw[d,e2];clear e e2 d;omega
def Lr (a x:Nat):st a x=(rt ((a+x * 14029467366897019727) % 18446744073709551616) * 11400714785074694791) % 18446744073709551616:=by unfold st;rfl
def Rz (t:Nat):rt t=(t * 2147483648) % 18446744073709551616+t / 8589934592:=by unfold rt;rfl
def Ro {x y h l S Q R a:Nat}(hx:x<=1000000000)(hy:y<=1000000000)(h1:h<2147483648)(J:l<8589934592)(e1:(14029467366897019727:Int) * x=8589934592 * h+l+18446744073709551616 * S-2870177450012600261)
  (e2:(a:Int)=(2147483648 * (l:Int)+h) * 11400714785074694791-18446744073709551616 * Q) (j:a+y * 14029467366897019727=18446744073709551616 * R+9148689060682678900):False:=by
 have d:(14029467366897019727:Int) * y=9148689060682678900+18446744073709551616 * (R:Int)-(a:Int):=by clear e1 e2;omega
 rw[e2]at d;clear j e2;refine none (H:=h) (L:=l) (X:=x) (Y:=y) (S:=S) (T:=(R:Int)+Q) e1 (d.trans ?_) (by clear d e1;omega) (by clear d e1;omega) (by clear d e1;omega) (by clear d e1;omega) (by clear d e1;omega) (by clear d e1;omega) (by clear d e1;omega) (by clear d e1;omega);clear d e1;omega
def Gb {x y:Nat}(hx:x<=1000000000)(hy:y<=1000000000):(st (st 2870177450012600261 x) y+2870177450013471924) % 18446744073709551616≠18446744073709551616-1:=λz=>by
 have m:=GH (st 2870177450012600261 x) y;have e:∀a:Nat,a<18446744073709551616->(a+2870177450013471924) % 18446744073709551616=18446744073709551616-1->a=18446744073709551616-1-2870177450013471924:=λa h1 h2=>by omega
 have e:=e _ m z;have d:=zI<|Ft (t:=(st 2870177450012600261 x+y * 14029467366897019727) % 18446744073709551616)<|ee _ ⋯;rw[<- Lr,e]at d;have k:rt 9148689060682678900=(18446744073709551616-1-2870177450013471924) * 614540362697595703 % 18446744073709551616:=by unfold rt;decide +kernel
 have j:=Es (ee _ ⋯) ⋯ (d.symm.trans k.symm);obtain⟨h,l,S,Q,h1,g,e1,e2⟩:=one x;have f:=fy (st 2870177450012600261 x+y * 14029467366897019727) 18446744073709551616;rw[j]at f;exact Ro hx hy h1 g e1 e2 f.symm
def RJ {x y h l S Q R a M U h' Z S' Q' R' a' B:Nat}(hx:x<=1000000000)(hy:y<=1000000000)(hx':M<=1000000000)(hy':U<=1000000000)(h1:h<2147483648)(l1:l<8589934592)(h1':h'<2147483648)(l1':Z<8589934592)
  (e1:(14029467366897019727:Int) * x=8589934592 * h+l+18446744073709551616 * S-2870177450012600261) (e2:(a:Int)=(2147483648 * (l:Int)+h) * 11400714785074694791-18446744073709551616 * Q)
  (j:(14029467366897019727:Int) * M=8589934592 * h'+Z+18446744073709551616 * S'-2870177450012600261) (J:(a':Int)=(2147483648 * (Z:Int)+h') * 11400714785074694791-18446744073709551616 * Q')
  (d1:18446744073709551616 * R+B=a+y * 14029467366897019727) (d2:18446744073709551616 * R'+B=a'+U * 14029467366897019727):x=M/\y=U:=by
 have d:(14029467366897019727:Int) * ((y:Int)-U)=18446744073709551616 * ((R:Int)-R')-((a:Int)-(a':Int)):=by
  clear e1 e2 j J;omega
 rw[e2,J]at d;clear d1 d2 e2 J;have f1:(14029467366897019727:Int) * ((x:Int)-M)=8589934592 * ((h:Int)-h')+((l:Int)-Z)+18446744073709551616 * ((S:Int)-S'):=by
  rw[mul_sub,e1,j];clear e1 j d;omega
 clear e1 j;obtain⟨_,_,g,f⟩:=small (H:=(h:Int)-h') (L:=(l:Int)-Z) (X:=(x:Int)-M) (Y:=(y:Int)-U) (S:=(S:Int)-S') (T:=(R:Int)-R'+Q-Q') f1 (d.trans<|by clear d f1;omega) (by clear d f1;omega) (by clear d f1;omega) (by clear d f1;omega) (by clear d f1;omega) (by clear d f1;omega) (by clear d f1;omega) (by clear d f1;omega) (by clear d f1;omega);clear d f1;omega
def Jm {x y J L:Nat}(hx:x<=1000000000)(hy:y<=1000000000)(M:J<=1000000000)(U:L<=1000000000)(e:st (st 2870177450012600261 x) y=st (st 2870177450012600261 J) L):x=J/\y=L:=by
 have b:=Oi e;obtain⟨h,l,S,Q,h1,k,e1,e2⟩:=one x;obtain⟨h',m,t,z,f,d,j,g⟩:=one J;have d1:=fy (st 2870177450012600261 x+y * 14029467366897019727) 18446744073709551616;have d2:=fy (st 2870177450012600261 J+L * 14029467366897019727) 18446744073709551616;rw[<- b]at d2;exact RJ hx hy M U h1 k f d e1 e2 j g d1 d2
theorem raw {x:Nat}(h:x<=1000000000):hashInt (x:Int)=(x:Int)/\((x:Int) % ((18446744073709551616:Nat):Int)).toNat=x:=by
 refine⟨?_,by omega⟩;have e:rawHash (x:Int)=(x:Int):=by
  dsimp[rawHash];have h1:(x:Int).natAbs % (2 ^ 61-1)=x:=by rw[Int.natAbs_natCast,Nat.mod_eq_of_lt<|by omega]
  have h2:(((x:Int).natAbs % (2 ^ 61-1:Nat):Nat):Int)=(x:Int):=by rw[h1]
  have d:((x:Int).natAbs:Int) % ((2 ^ 61-1:Nat):Int)=(x:Int):=by rw[<- Int.natCast_emod];exact h2
  rw[d,aU<|show ¬(x:Int)<0 by omega,aU<|by rw[gY];omega]
 unfold hashInt;rw[e,aU];rw[gY];omega
abbrev fh (acc:Nat):Int:=if (acc == 18446744073709551616-1)=true then(1546275796:Int)else if acc<9223372036854775808 then(acc:Int)else(acc:Int)-18446744073709551616
abbrev stI (m p q acc:Nat)(h:Int):Nat:=
 let d:Nat:=11400714785074694791
 let f:Nat:=14029467366897019727
 let acc:=(acc+(h % (m:Int)).toNat * f) % m
 let acc:=(acc * p) % m+acc / q
 (acc * d) % m
abbrev Qv (m r n acc:Nat):Int:=
 let acc:=(acc+n) % m
 if acc == m-1 then 1546275796 else if acc<r then acc else(acc:Int)-m
abbrev J8 (m p q r:Nat)(j:ag):Int:=Qv m r (j.length ^^^ (2870177450012600261 ^^^ 3527539))<|j.foldl (stI m p q) 2870177450012600261
abbrev stN (m p q acc n:Nat):Nat:=(((acc+n * 14029467366897019727) % m * p) % m+(acc+n * 14029467366897019727) % m / q) * 11400714785074694791 % m
abbrev QB (m r acc:Nat):Int:=if acc == m-1 then 1546275796 else if acc<r then acc else(acc:Int)-m
def O0 (hs:ag):Builtin.Tuple.tupleHashOf hs=J8 (2 ^ 64) (2 ^ 31) (2 ^ 33) (2 ^ 63) hs:=by delta Builtin.Tuple.tupleHashOf J8 Qv stI;rfl
def O6 (F:Nat->Int->Nat)(a:Nat)(x y:Int):List.foldl F a [x,y]=F (F a x) y:=rfl
def L6 (m p q a:Nat)(h:Int):stI m p q a h=stN m p q a (h % (m:Int)).toNat:=by delta stI stN;rfl
def Ox (m r n a:Nat):Qv m r n a=QB m r ((a+n) % m):=by delta Qv QB;rfl
def Sb (x y:Int):[x,y].length=2:=rfl
def OV (m p q r:Nat)(x y:Int):J8 m p q r [x,y]=QB m r ((stN m p q (stN m p q 2870177450012600261 (x % (m:Int)).toNat) (y % (m:Int)).toNat+(2 ^^^ (2870177450012600261 ^^^ 3527539))) % m):=by
 delta J8;rw[O6,Ox,Sb,L6,L6]
def PX (a n:Nat):stN 18446744073709551616 2147483648 8589934592 a n=st a n:=by unfold stN;rw[Lr,Rz]
def Ry (c:Nat):QB 18446744073709551616 9223372036854775808 c=fh c:=rfl
def J3 (x y:Int):Builtin.Tuple.tupleHashOf [x,y]=fh ((st (st 2870177450012600261 (x % ((18446744073709551616:Nat):Int)).toNat) (y % ((18446744073709551616:Nat):Int)).toNat+2870177450013471924) % 18446744073709551616):=by
 rw[O0,show 2 ^ 64=18446744073709551616 by decide,show 2 ^ 31=2147483648 by decide,show 2 ^ 33=8589934592 by decide,show 2 ^ 63=9223372036854775808 by decide,OV,show 2 ^^^ (2870177450012600261 ^^^ 3527539)=2870177450013471924 by decide,PX,PX,Ry]
def yW {x y:Nat}(hx:x<=1000000000)(hy:y<=1000000000):Am.hI [(x:Int),(y:Int)]=reduceHash (fh<|(st (st 2870177450012600261 x) y+2870177450013471924) % 18446744073709551616):=by
 unfold Am.hI;rw[bC,bC,dD,(raw hx).1,(raw hy).1,J3,(raw hx).2,(raw hy).2]
def Mn {c d:Nat}(hc:c<18446744073709551616)(hd:d<18446744073709551616)(J:c≠18446744073709551616-1)(L:d≠18446744073709551616-1)(e:reduceHash (fh c)=reduceHash (fh d)):c=d:=by
 have f:∀c:Nat,c<18446744073709551616->c≠18446744073709551616-1->reduceHash (fh c)=if c<9223372036854775808 then(c:Int)else(c:Int)-18446744073709551616:=λc hc J=>by
  have e1:fh c=if c<9223372036854775808 then(c:Int)else(c:Int)-18446744073709551616:=by unfold fh;rw[aU<|by rw[gY];exact J]
  rw[e1];have j:-(2 ^ 63:Int)<=(if c<9223372036854775808 then(c:Int)else(c:Int)-18446744073709551616):=by split<;>omega
  have k:(if c<9223372036854775808 then(c:Int)else(c:Int)-18446744073709551616)<2 ^ 63:=by split<;>omega
  have g:(if c<9223372036854775808 then(c:Int)else(c:Int)-18446744073709551616)≠-1:=by split<;>omega
  generalize(if c<9223372036854775808 then(c:Int)else(c:Int)-18446744073709551616)=z at *
  unfold reduceHash;rw[aR<|by rw[bu j,bu k];rfl,aU<|by rw[gY];exact g]
 rw[f c hc J,f d hd L]at e;split at e<;>split at e<;>omega
def pairs {x y J L:Int}(hx:0<=x/\x<=1000000000)(hy:0<=y/\y<=1000000000)(M:0<=J/\J<=1000000000)(U:0<=L/\L<=1000000000)(e:Am.hI [x,y]=Am.hI [J,L]):x=J/\y=L:=by
 obtain⟨a,rfl⟩:=dZ hx.1;obtain⟨b,rfl⟩:=dZ hy.1;obtain⟨c,rfl⟩:=dZ M.1;obtain⟨d,rfl⟩:=dZ U.1;rw[yW (by omega)<|by omega,yW (by omega)<|by omega]at e;have q:=Mn (ee _ ⋯) (ee _ ⋯) (Gb (by omega)<|by omega) (Gb (by omega)<|by omega) e;have g:=GH (st 2870177450012600261 a) b;have j:=GH (st 2870177450012600261 c) d;have f:∀u v:Nat,u<18446744073709551616->v<18446744073709551616->(u+2870177450013471924) % 18446744073709551616=(v+2870177450013471924) % 18446744073709551616->u=v:=λu v h1 h2 k=>by omega
 have:=Jm (by omega) (by omega) (by omega) (by omega)<|f _ _ g j q;omega
end Th
namespace K63
open PySem L2 Am
abbrev ct (Q:List<|ag)(m:Int):ag:=(Q.map λr=>((r.filter λx=>decide<|x<=m).length:Int)).filter λz=>decide<|z>0
def pX(q:ag)(Q:List<|ag)(m:Int):ct (q::Q) m=if ((q.filter λx=>decide<|x<=m).length:Int)>0 then((q.filter λx=>decide<|x<=m).length:Int)::ct Q m else ct Q m:=by
 unfold ct;rw[bC,fZ];by_cases h:((q.filter λx=>decide<|x<=m).length:Int)>0
 ·rw[aR h,aR<|bu h]
 ·rw[aU h,aU<|by rw[bw h];exact bf]
theorem Eo{m k:Int}(h:m<k):∀(Q:List<|ag) (i:Nat),ct (Tb.add Q i k) m=ct Q m
 | [],_=>by
  show ct [[k]] m=_;have e:([k]:ag).filter (λx=>decide<|x<=m)=[]:=by rw[fF<|by rw[bw ()];exact bf];rfl
  rw[pX,e,aU<|by rw[eg];lia]
 | q::Q,0=>by
  show ct ((q++[k])::Q) m=_;have e:(q++[k]).filter (λx=>decide<|x<=m)=q.filter λx=>decide (x<=m):=by
   rw[List.filter_append,fF<|by rw[bw ()];exact bf,List.filter_nil,bJ]
  rw[pX,pX,e]
 | q::Q,i+1=>by
  show ct (q::Tb.add Q i k) m=_;rw[pX,pX,Eo h Q i]
theorem Fe{m:Int}:∀{Q:List<|ag},(∀q∈Q,q≠[]/\∀x∈q,x<=m)->ct Q m=Q.map λr=>(r.length:Int)
 | [],_=>rfl
 | q::Q,h=>by
  obtain⟨h1,h2⟩:=h q<|aM ..;have e:q.filter (λx=>decide<|x<=m)=q:=cL.2 λx hx=>bu<|h2 x hx;have l:=b6.2 h1;rw[pX,e,aR (),Fe λp hp=>h p<|aN _ hp];rfl
theorem LA(xs:ag)(m:Nat):∀n,ct (Tb.tabs xs<|m+n).2 m=(Tb.tabs xs m).1.map λr=>(r.length:Int)
 | 0=>by
  have f:((Tb.tabs xs m).2.map λr=>(r.length:Int))=(Tb.tabs xs m).1.map λr=>(r.length:Int):=by
   have:=cj (List.map λn:Nat=>(n:Int))<|Tb.jC xs m;rw[bL,bL]at this;exact this
  rw[<- f];refine Fe λq d=>⟨λz=>?_,λx hx=>?_⟩
  ·have h1:q.length∈(Tb.tabs xs m).1.map List.length:=by rw[<- Tb.jC];exact bK.2 ⟨q,d,rfl⟩
   have:=Tb.uH xs m _ h1;rw[z]at this;cases this
  ·have:=pR.1 ((r8 xs m).mem_iff.1<|cE.2 ⟨q,d,hx⟩)
   lia
 | n+1=>by
  rw[<- LA xs m n];show ct (Tb.add _ _<|((m+n:Nat):Int)+1) m=_;exact Eo () _ _
def FG{xs:ag}(h:m<=xs.length):ct (Tb.tabs xs xs.length).2 m=((xs.take m).foldl Tb.put []).map λr=>(r.length:Int):=by
 have:=LA xs m<|xs.length-m;rw[show m+(xs.length-m)=xs.length by lia]at this;rw[this,Mo.l_ xs m h]
end K63
namespace K63
open PySem L2 Am
abbrev rl (d:Bool):Int->Int->Bool:=if d=true then Gn.gt else Gn.le
def Nc{w:ag}{j:Int}(h:i<w.length)(e:j=i):oM (w.map A.int) j=some (.int<|w.getD i 0):=by
 subst e;rw[aI,aH h];exact t7 (k:=i) ()<|aH h
def NQ{k:Nat}{w bs:ag}(J:iw S L=some (w.map .int))(M:iw S B=some (bs.map .int))(U:k<w.length)(hb:bs.length=k)(Z:w.length<=100) :
  ∃a5' a6',mW lK (i_ 5) lN [.ref L,.bl d,.ref B,.int k,.int 1,a5,a6] S=.nx [.ref L,.bl d,.ref B,.int k,.int<|Gn.hr (rl d) w bs k k,a5',a6'] S:=by
 refine qU (lo:=0) (hi:=k) (S1:=S) (show lK _ _=_ from pA (by dsimp[iX,bools])<|mU () ())
  (λi τ S1=>∃a5' a6',τ=[.ref L,.bl d,.ref B,.int k,.int<|Gn.hr (rl d) w bs k i,a5',a6']/\S1=S)
  (λr=>∃a5' a6',r=.nx [.ref L,.bl d,.ref B,.int k,.int<|Gn.hr (rl d) w bs k k,a5',a6'] S) ⟨_,_,rfl,rfl⟩ ?_ ?_
 ·rintro i τ S1 hi ⟨a5',a6',rfl,rfl⟩;left;have m:=Nc (w:=w) (i:=i) (j:=0+(i:Int)) () ();have g:=Nc (w:=w) (i:=k) (j:=(k:Int)) U rfl;have f:=Nc (w:=bs) (i:=i) (j:=0+(i:Int)) () ();have e:Gn.hr (rl d) w bs k (i+1)=if rl d (w.getD i 0) (w.getD k 0)=true then(if bs.getD i 0+1>Gn.hr (rl d) w bs k i then bs.getD i 0+1 else Gn.hr (rl d) w bs k i)else Gn.hr (rl d) w bs k i:=rfl
  rw[e];generalize Gn.hr (rl d) w bs k i=h;unfold lN
  cases d
  ·have r0:rl false (w.getD i 0) (w.getD k 0)=decide (w.getD i 0<=w.getD k 0):=rfl;rw[r0];by_cases q:w.getD i 0<=w.getD k 0
   ·dsimp[iX,bools,J,M,m,g,f,bu q,d8];exact⟨_,_,rfl,_,_,rfl,rfl⟩
   ·dsimp[iX,bools,J,M,m,g,f,bw q];exact⟨_,_,rfl,_,_,rfl,rfl⟩
  ·have r0:rl true (w.getD i 0) (w.getD k 0)=decide (w.getD k 0<w.getD i 0):=rfl;rw[r0];by_cases q:w.getD k 0<w.getD i 0
   ·dsimp[iX,bools,J,M,m,g,f,bu q,d8];exact⟨_,_,rfl,_,_,rfl,rfl⟩
   ·dsimp[iX,bools,J,M,m,g,f,bw q];exact⟨_,_,rfl,_,_,rfl,rfl⟩
 ·rintro τ S1 ⟨a5',a6',rfl,rfl⟩;exact⟨_,_,rfl⟩
def GX{w:ag}(h:iw S L=some (w.map .int))(M:w.length<=100)(d:Bool) :
  ∃(m:Int) (S':iC),jQ [.ref L,.bl d] S=.ok (.int m) S'/\mR S S'/\m∈0::Gn.bs (rl d) w w.length/\∀a∈0::Gn.bs (rl d) w w.length,a<=m:=by
 have K:=mO h;have J:∀T:iC,iw T L=some (w.map .int)->kP (.ref L) T=.ok (.int w.length) T:=λT F=>by dsimp[iX,bools,F,aL]
 unfold jQ nj nu;dsimp[iX,bools,l7,Nat.reduceAdd,Nat.reduceSub];have t:mR S (S++[O.lst []]):=Kp.refl.lay;refine qU (lo:=0) (hi:=w.length) (S1:=S++[.lst []]) (show oK _ _=_ from pA (by dsimp[iX,bools,J _<|t.lst _ _ (λz=>z) h])<|mU () ())
  (λi τ S1=>∃j k a5 a6,τ=[.ref L,.bl d,.ref S.length,j,k,a5,a6]/\iw S1 S.length=some ((Gn.bs (rl d) w i).map .int)/\mR S S1)
  (λr=>∃(m:Int) (S':iC),RS.end (RS.seq r _)=.ok (.int m) S'/\mR S S'/\m∈0::Gn.bs (rl d) w w.length/\∀a∈0::Gn.bs (rl d) w w.length,a<=m) ⟨_,_,_,_,rfl,iR,t⟩ ?_ ?_
 ·rintro i τ S1 hi ⟨j,k,a5,a6,rfl,g,k1⟩;left;have hi:i<w.length:=()
  obtain⟨C,B,e⟩:=NQ (d:=d) (a5:=a5) (a6:=a6) (k1.lst _ _ (λz=>z) h) g hi (Gn.nv ..) M;have lB:=mO g;unfold oR;have z:(0:Int)+(i:Int)=i:=Int.zero_add _;dsimp[iX,bools,z,e,g,aL,Gn.nv,rg<|show i<16777216 by lia];refine⟨_,_,rfl,_,_,_,_,rfl,?_,k1.set<|.inr<|aP _⟩;rw[om lB];show _=some ((Gn.bs (rl d) w i++[_]).map _);rw[bU];rfl
 ·rintro τ S1 ⟨j,k,a5,a6,rfl,g,k1⟩;have e0:((w.length:Int)-0).toNat=w.length:=()
  rw[e0]at g;obtain⟨S2,f⟩:∃S2,S2=S1++[O.lst [.int 0]]:=⟨_,rfl⟩;have G:ow (.ref S1.length) (.ref S.length) S2=.ok (.ref S2.length) (S2++[O.lst<|(0::Gn.bs (rl d) w w.length).map .int]):=
   Oz (xs:=[.int 0]) (ys:=(Gn.bs (rl d) w w.length).map .int) (by rw[f];exact iR) (by rw[f];exact k_ g) (by rw[aL,Gn.nv];show 1+_<=_;lia)
  obtain⟨m,e,h1,h2⟩:=ya (S:=S2++[O.lst<|(0::Gn.bs (rl d) w w.length).map .int]) (n:=S2.length) (ns:=0::Gn.bs (rl d) w w.length) iR (by simp);refine⟨m,S2++[O.lst<|(0::Gn.bs (rl d) w w.length).map .int],?_,by rw[f];exact k1.lay.lay,h1,h2⟩;dsimp[iX,bools,jn<|show([A.int 0]:ae).length<=16777216 by decide,<- f,G,e]
end K63
namespace K63
open PySem L2 Am
abbrev pI (m:Int)(x:A):Bool:=match x with
 | .int v=>decide (v<=m)
 | _=>false
abbrev pG (x:A):Bool:=match x with
 | .int v=>decide (v>0)
 | _=>false
def NC{n:Nat}{Q:List<|ag}{m:Int}(h:Tab S n rs Q)(J:Q.length<=100)(hr:∀i,(Q.getD i []).length<=100) :
  ∃(L:Nat) (S':iC),nN [.ref n,.int m] S=.ok (.ref L) S'/\iw S' L=some ((ct Q m).map .int)/\mR S S':=by
 have j:=h.len;have c1:∃S1,jA [none,some 1] (jX<|iu 0) (i_ 0) jF (iT (f1 kP)<|iy (jA [none,some 1] (jX<|iu 0) (i_ 0) (p_<|iL xQ (iu 0)<|iu 1)<|iu 0) iJ) [.ref n,.int m,.unb] S=.ok (.ref S1.length) (S1++[O.lst<|(Q.map λr=>((r.filter λx=>decide<|x<=m).length:Int)).map .int])/\mR S S1:=by
  obtain⟨S1,h1,h2⟩:=nZ (s:=i9 n rs.length) (g:=i_ 0) (t:=jF) (e:=iT (f1 kP)<|iy (jA [none,some 1] (jX<|iu 0) (i_ 0) (p_<|iL xQ (iu 0)<|iu 1)<|iu 0) iJ) (P:=λT=>mR S T) (T:=λd=>∃y,d=[y,.int m])
   (λi=>.ref<|rs.getD i 0) (λ_=>true) (λi=>.int (((Q.getD i []).filter λx=>decide<|x<=m).length:Int))
   (λi T hi k=>by
    have hi:i<rs.length:=hi;show(iw T n).bind _=_;rw[k.lst _ _ (λz=>z) h.top,cD,aX,aH hi,aI,aH hi];rfl)
   (λT k=>by
    show(match iw T n with
     | some ys=>decide (ys.length<=rs.length)
     | none=>false)=true
    rw[k.lst _ _ (λz=>z) h.top];simp)
   (λi d T hi ⟨y,hy⟩ k=>by
    have hi:i<rs.length:=hi;subst hy;have g:=k.lst _ _ (λz=>z) (h.rows.get (i:=i) (r:=rs.getD i 0)<|by rw[aI,aH hi];rfl).2;have e:=uK (S:=T) (cap:=[some 1]) (τ:=[.ref<|rs.getD i 0,.int m]) (src:=jX<|iu 0) (t:=p_<|iL xQ (iu 0)<|iu 1) (e:=iu 0) (kX (by dsimp[iX,bools]) g) g (pI m) id (λx hx=>by
      obtain⟨v,_,rfl⟩:=bK.1 hx;dsimp[iX,bools];rfl) (λx hx _=>by
      obtain⟨v,_,rfl⟩:=bK.1 hx;dsimp[iX,bools];rfl) (by rw[aL];have:=hr i;lia)
    refine⟨[.ref<|rs.getD i 0,.int m],T,T,rfl,rfl,⟨_,rfl⟩,λz=>(by cases z),λ_=>⟨T++[O.lst<|((Q.getD i []).filter λx=>decide<|x<=m).map .int],?_,k.lay⟩⟩;have f:((((Q.getD i []).map A.int).filter<|pI m).map id)=(((Q.getD i []).filter λx=>decide<|x<=m).map A.int):=by rw[map_id,h_];rfl
    rw[f]at e;dsimp[iX,bools,e,iR,aL])
   rs.length 0 (lA [none,some 1] [.ref n,.int m,.unb]) S rfl ⟨_,rfl⟩ Kp.refl
  refine⟨S1,?_,h2⟩;show(jX (iu 0) _ S).bind (λs S1=>(jN s _ _ _ s.k 0 _ S1).jb λys S2=>newL ys S2)=_;have hs:jX (iu 0) [.ref n,.int m,.unb] S=.ok (i9 n rs.length) S:=by
   have:=kX (c:=iu 0) (τ:=[.ref n,.int m,.unb]) (S:=S) (by dsimp[iX,bools]) h.top;rw[aL]at this;exact this
  rw[hs,R.jK];show R.jb (jN (i9 n rs.length) _ _ _ rs.length 0 _ _) _=_;rw[h1,R.i8,<- gb,vc];have f:(List.range rs.length).map (λi=>A.int (((Q.getD i []).filter λx=>decide<|x<=m).length:Int))=(Q.map λr=>((r.filter λx=>decide<|x<=m).length:Int)).map .int:=by
   rw[j];refine List.ext_getElem (by simp) λi h1 h2=>?_;have hi:i<Q.length:=by simpa using h1
   simp[aI,aH hi]
  rw[f];exact jn<|by rw[aL,aL];lia
 obtain⟨S1,e1,k1⟩:=c1;have g1:iw (S1++[O.lst<|(Q.map λr=>((r.filter λx=>decide<|x<=m).length:Int)).map .int]) S1.length=some ((Q.map λr=>((r.filter λx=>decide<|x<=m).length:Int)).map .int):=iR;have e2:=uK (cap:=[]) (τ:=[.ref n,.int m,.ref S1.length]) (src:=jX<|iu 2) (t:=p_<|iL Nh (iu 0)<|eC<|.int 0) (e:=iu 0) (kX (by dsimp[iX,bools]) g1) g1 (pG) id (λx hx=>by
   obtain⟨v,_,rfl⟩:=bK.1 hx;dsimp[iX,bools];rfl) (λx hx _=>by
      obtain⟨v,_,rfl⟩:=bK.1 hx;dsimp[iX,bools];rfl)<|by rw[aL,aL];lia
 have f2:((((Q.map λr=>((r.filter λx=>decide<|x<=m).length:Int)).map A.int).filter pG).map id)=(ct Q m).map A.int:=by rw[map_id,h_];rfl
 rw[f2]at e2;refine⟨_,S1++[O.lst<|(Q.map λr=>((r.filter λx=>decide<|x<=m).length:Int)).map .int]++[O.lst<|(ct Q m).map .int],?_,iR,k1.lay.lay⟩;unfold nN sA sX;dsimp[iX,bools,l7,Nat.reduceAdd,Nat.reduceSub,e1,e2]
end K63
namespace K63
open PySem L2 Am
abbrev ed (e:List Gn.En):List (ag×A):=e.map λp=>([p.1.1,p.1.2],A.int p.2)
theorem pY{a b:Int}:∀{e:List Gn.En},jW (ed e) [a,b]=(Gn.lk e (a,b)).map A.int
 | []=>rfl
 | p::e=>by
  rw[Gn.l6];by_cases h:p.1=(a,b)
  ·rw[aR h];exact vK (p:=([p.1.1,p.1.2],A.int p.2)) (by rw[h])
  ·rw[aU h,<- pY];refine vW (p:=([p.1.1,p.1.2],A.int p.2)) λz=>h ?_
   injection z with f d
   injection d with d
   exact ig f d
def NO{a b m:Int}:putD (ed e) [a,b] (.int m)=ed (Gn.pt e (a,b) m):=by
 unfold putD Gn.pt;rw[pY,isSome_map];by_cases h:(Gn.lk e (a,b)).isSome=true
 ·rw[aR h,aR h];unfold ed;rw[bL,bL];refine eY λp _=>?_;show(if [p.1.1,p.1.2]=[a,b]then([p.1.1,p.1.2],A.int m)else([p.1.1,p.1.2],A.int p.2))=_;by_cases q:p.1=(a,b)
  ·have f:[p.1.1,p.1.2]=[a,b]:=by rw[q]
   rw[aR f];show _=([(if p.1=(a,b)then(p.1,m)else p).1.1,(if p.1=(a,b)then(p.1,m)else p).1.2],A.int (if p.1=(a,b)then(p.1,m)else p).2);rw[aR q]
  ·have f:¬[p.1.1,p.1.2]=[a,b]:=λz=>q (by injection z with g d;injection d with d;exact ig g d);rw[aU f];show _=([(if p.1=(a,b)then(p.1,m)else p).1.1,(if p.1=(a,b)then(p.1,m)else p).1.2],A.int (if p.1=(a,b)then(p.1,m)else p).2);rw[aU q]
 ·rw[aU h,aU h];unfold ed;rw[bU];rfl
def wB{S:iC}{n:Nat}(h:n<S.length):jE (S.set n<|.dct d) n=some d:=qW<|bF h
def KU{S:iC}{n:Nat}(h:m≠n):m_ (S.set m o) n=m_ S n:=by unfold m_;rw[bE h]
def vf{S:iC}{n:Nat}(h:jE S n=some d):S.set n (.dct d)=S:=by
 exact nE<|jx h
def B6{u x m k1 k2:Int}{q:Nat}{T:iC}{e:List Gn.En}{cu ck:Ex}(J:cu τ T=.ok (.int u) T)(h2:iu 2 τ T=.ok (.int x) T)(L:∀T,iu 3 τ T=.ok (.ref q) T)(h6:∀T,iu 6 τ T=.ok (.int m) T)
  (M:∀T,ck τ T=.ok (.tup [.int k1,.int k2]) T) (hd:jE T q=some (ed e)) (U:e.length<1000) :
  vn (vB (p_<|iL xQ cu<|iu 2)<|p_<|iL Ei (Dz z8 (iu 3)<|iy ck<|iy (eC<|.int 0) iJ)<|iu 6) (jf (iu 6)<|Ar (iu 3) ck) nM τ T=.nx τ (T.set q<|.dct<|ed<|if u<=x then Gn.up' e (k1,k2) m else e):=by
 have le:(ed e).length<16777216:=by unfold ed;rw[aL];lia
 have g1:(vB (p_<|iL xQ cu<|iu 2)<|p_<|iL Ei (Dz z8 (iu 3)<|iy ck<|iy (eC<|.int 0) iJ)<|iu 6) τ T=.ok (decide (u<=x) && decide ((Gn.lk e (k1,k2)).getD 0<m)) T:=by
  have g:z8 (.ref q) [.tup [.int k1,.int k2],.int 0] T=.ok (.int<|(Gn.lk e (k1,k2)).getD 0) T:=by
   show opt (jE T q) _=_;rw[hd,iP];show R.ok ((jW (ed e) [k1,k2]).getD<|.int 0) T=_;rw[pY]
   cases Gn.lk e (k1,k2)<;>rfl
  have f:dct? (.ref q) T=some Unit.unit:=by
   show(jE T q).map _=_;rw[hd];rfl
  have j:Dz z8 (iu 3) (iy ck<|iy (eC<|.int 0) iJ) τ T=.ok (.int<|(Gn.lk e (k1,k2)).getD 0) T:=by
   have l:(iy ck<|iy (eC<|.int 0) iJ) τ T=.ok [.tup [.int k1,.int k2],.int 0] T:=by dsimp[iX,bools,M]
   show(iu 3 τ T).bind _=_;rw[L,R.jK];show opt (dct? (.ref q) T) _=_;rw[f,iP,l];exact g
  by_cases c:u<=x
  ·dsimp[iX,bools,J,h2,h6,j,bu c,Bool.true_and]
  ·dsimp[iX,bools,J,h2,bw c,Bool.false_and]
 have g2:jf (iu 6) (Ar (iu 3) ck) τ T=.nx τ (T.set q<|.dct<|ed<|Gn.pt e (k1,k2) m):=by
  have s:Fi (.ref q) (.tup [.int k1,.int k2]) (.int m) T=.ok Unit.unit (T.set q<|.dct<|ed<|Gn.pt e (k1,k2) m):=by
   show opt (jE T q) _=_;rw[hd,iP];show gd ((ed e).length<sizeLine) (R.ok Unit.unit<|T.set q<|.dct<|putD (ed e) [k1,k2]<|.int m)=_;rw[rg le,NO]
  have t:Ar (iu 3) ck (.int m) τ T=.ok τ (T.set q<|.dct<|ed<|Gn.pt e (k1,k2) m):=by
   unfold Ar;dsimp[iX,bools,L,M,s]
  dsimp[iX,bools,h6,t]
 show RS.of ((vB _ _) τ T) _=_;rw[g1];by_cases c:u<=x
 ·rw[aR c,bu c,Bool.true_and];unfold Gn.up';by_cases d:(Gn.lk e (k1,k2)).getD 0<m
  ·rw[aR d,bu d];exact g2
  ·rw[aU d,bw d,vf hd];rfl
 ·rw[aU c,bw c,vf hd];rfl
end K63
namespace K63
open PySem L2 Am
def Na(e:List Gn.En)(k:Int×Int)(m:Int):(Gn.pt e k m).length<=e.length+1:=by
 unfold Gn.pt;split
 ·rw[aL];lia
 ·rw[aY];exact aP _
def Mi(x:Int)(e:List Gn.En)(p:Gn.En):(Gn.t1 x e p).length<=e.length+1:=by
 unfold Gn.t1 Gn.up';split
 ·split
  ·exact Na ..
  ·lia
 ·lia
def Nz{w:ag}{val:Int×Int->Int}{N:Int}{e:List Gn.En}(h:Gn.Up (·∈0::w) val N e):e.length<=(w.length+1) * (w.length+1):=by
 have g:∀k∈e.map (·.1),k∈(0::w).flatMap λa=>(0::w).map λb=>(a,b):=λk m=>by
  obtain⟨h1,h2⟩:=h.ks k m;exact List.mem_flatMap.2 ⟨k.1,h1,bK.2 ⟨k.2,h2,rfl⟩⟩
 have d:∀{l M:List<|Int×Int},l.Nodup->(∀x∈l,x∈M)->l.length<=M.length:=by
  intro l
  induction l with
  | nil=>intro M _ _;exact bN _
  | cons a l f=>
   intro M nd s;rw[bO]at nd;have j:=s a<|aM ..;have:=f (M:=M.erase a) nd.2 λy hy=>by
    have:y≠a:=λz=>nd.1<|z ▸ hy;exact(List.mem_erase_of_ne this).2 (s y<|aN _ hy)
   rw[List.length_erase_of_mem j]at this;have:=List.length_pos_of_mem j;rw[bz];lia
 have l:=d h.nd g;have fl:∀(u v:ag),(u.flatMap λa=>v.map λb=>(a,b)).length=u.length * v.length:=by
  intro u v
  induction u with
  | nil=>rw[List.flatMap_nil,eg,eg,Nat.zero_mul]
  | cons a u f=>rw[List.flatMap_cons,aY,f,aL,bz,Nat.succ_mul,Nat.add_comm]
 rw[aL,fl,bz]at l;exact l
def HL{T:iC}{n q:Nat}{x:Int}{H:List Gn.En}(hn:jE T n=some (ed H))(U:jE T q=some (ed H))(Z:n≠q)(nd:(H.map (·.1)).Nodup)(hb:∀i,((H.take i).foldl (Gn.tr x) H).length<900) :
  ∃a4' a5' a6',mW tD (zH 2<|s_ (i_ 4)<|s_ (i_ 5) B3) pq [.ref L,.ref n,.int x,.ref q,a4,a5,a6] T=.nx [.ref L,.ref n,.int x,.ref q,a4',a5',a6'] ((T.set n<|.dcf<|ed H).set q<|.dct<|ed<|Gn.nx x H):=by
 obtain⟨f,g⟩:∃f,f=T.set n (O.dcf<|ed H):=⟨_,rfl⟩;have F:n<T.length:=qy<|jx hn;have z:q<f.length:=by rw[g,bG];exact qy (jx U)
 have J:jE f q=some (ed H):=by
  rw[g];refine qW ?_;rw[bE Z];exact jx U
 have G:m_ f n=some (ed H):=by
  unfold m_;rw[g,bF F]
 have C:∀d,m_ (f.set q<|.dct d) n=some (ed H):=λd=>by rw[KU<|b_ Z];exact G
 rw[<- g];refine BG (xs:=(ed H).map Nr) (S1:=f) (by
   show MG (.ref n) T=_;show opt (jE T n) _=_;rw[hn,iP,<- g])
  (λi τ S1=>∃a4' a5' a6',τ=[.ref L,.ref n,.int x,.ref q,a4',a5',a6']/\S1=f.set q (.dct<|ed<|(H.take i).foldl (Gn.tr x) H))
  (λr=>∃a4' a5' a6',r=.nx [.ref L,.ref n,.int x,.ref q,a4',a5',a6'] (f.set q<|.dct<|ed<|Gn.nx x H)) ⟨_,_,_,rfl,by rw[List.take_zero];exact(vf J).symm⟩ ?_ ?_
 ·rintro i X τ S1 t ⟨a4',a5',a6',rfl,rfl⟩;rw[aX]at t;obtain⟨N,j,rfl⟩:=bh.1 t;unfold ed at j;rw[aX]at j;obtain⟨p,hp,rfl⟩:=bh.1 j;have M:H.take (i+1)=H.take i++[p]:=by rw[List.take_add_one,hp];rfl
  have sp:(H.take<|i+1).foldl (Gn.tr x) H=Gn.tr x ((H.take i).foldl (Gn.tr x) H) p:=by rw[M,gM];rfl
  have B:=hb i;rw[sp];generalize(H.take i).foldl (Gn.tr x) H=e at B;have k:jW (ed H) [p.1.1,p.1.2]=some (.int p.2):=by
   rw[pY,Gn.y_ nd (m:=p.2)<|bx hp];rfl
  have K:wF (.ref n) (.tup [.int p.1.1,.int p.1.2]) (f.set q<|.dct<|ed e)=.ok (.int p.2) (f.set q<|.dct<|ed e):=by
   show opt (m_ _ n) _=_;rw[C,iP];show opt (jW (ed H) [p.1.1,p.1.2]) _=_;rw[k,iP]
  refine⟨[.ref L,.ref n,.int x,.ref q,.int p.1.1,.int p.1.2,a6'],f.set q<|.dct<|ed e,?_,.inl ?_⟩
  ·show zH 2 _ (.tup [.int p.1.1,.int p.1.2]) _ _=_;dsimp[iX,bools,jZ<|show([_,_]:ae).length=2 from rfl]
  ·have c1:=B6 (τ:=[.ref L,.ref n,.int x,.ref q,.int p.1.1,.int p.1.2,.int<|p.2+1]) (u:=p.1.1) (x:=x) (m:=p.2+1) (k1:=x) (k2:=p.1.2) (q:=q) (T:=f.set q<|.dct<|ed e) (e:=e) (cu:=iu 4) (ck:=qc<|iy (iu 2)<|iy (iu 5) iJ)
    (by dsimp[iX,bools]) (by dsimp[iX,bools]) (λT=>by dsimp[iX,bools]) (λT=>by dsimp[iX,bools]) (λT=>by dsimp[iX,bools,qL<|show([_,_]:ae).length<=16777216 by simp]) (wB z) ()
   have c2:=B6 (τ:=[.ref L,.ref n,.int x,.ref q,.int p.1.1,.int p.1.2,.int<|p.2+1]) (u:=p.1.2) (x:=x) (m:=p.2+1) (k1:=p.1.1) (k2:=x) (q:=q) (T:=f.set q<|.dct<|ed<|Gn.t1 x e p) (e:=Gn.t1 x e p) (cu:=iu 5) (ck:=qc<|iy (iu 4)<|iy (iu 2) iJ)
    (by dsimp[iX,bools]) (by dsimp[iX,bools]) (λT=>by dsimp[iX,bools]) (λT=>by dsimp[iX,bools]) (λT=>by dsimp[iX,bools,qL<|show([_,_]:ae).length<=16777216 by simp]) (wB z) (by have:=Mi x e p;lia)
   rw[gx]at c1 c2;unfold pq;have a:jf (iL ow (iL wF (iu 1)<|qc<|iy (iu 4)<|iy (iu 5) iJ)<|eC<|.int 1) (i_ 6) [.ref L,.ref n,.int x,.ref q,.int p.1.1,.int p.1.2,a6'] (f.set q<|.dct<|ed e)=.nx [.ref L,.ref n,.int x,.ref q,.int p.1.1,.int p.1.2,.int<|p.2+1] (f.set q<|.dct<|ed e):=by
    dsimp[iX,bools,qL<|show([_,_]:ae).length<=16777216 by simp,K]
   refine⟨[.ref L,.ref n,.int x,.ref q,.int p.1.1,.int p.1.2,.int<|p.2+1],f.set q<|.dct<|ed<|Gn.tr x e p,?_,_,_,_,rfl,rfl⟩;show RS.seq (jf _ _ _ _) _=_;rw[a];show RS.seq (vn _ _ _ _ _) _=_;rw[c1];exact c2
 ·rintro τ S1 ⟨a4',a5',a6',rfl,rfl⟩;have l:((ed H).map Nr).length=H.length:=by unfold ed;rw[aL,aL]
  rw[l,gR];exact⟨_,_,_,rfl⟩
end K63
namespace K63
open PySem L2 Am
def AN{S:iC}:jE (S++[.dct xs]) S.length=some xs:=qW<|by rw[b9<|aP _,bW];rfl
def J6{o:O}{n:Nat}(h:jE S n=some xs):jE (S++[o]) n=some xs:=(Kp.refl (b:=λ_=>False)).lay.dct _ _ (λz=>z) h
def Od{H:List Gn.En}:(ed H).map (λkv=>hI kv.1)=H.map λp=>hI [p.1.1,p.1.2]:=by unfold ed;rw[bL];rfl
def Jb{H:List Gn.En}(j:(H.map (·.1)).Nodup)(hb:∀k∈H.map (·.1),(0<=k.1/\k.1<=1000000000)/\0<=k.2/\k.2<=1000000000):((ed H).map λkv=>hI kv.1).Nodup:=by
 rw[Od];have f:H.Pairwise λp q=>p.1≠q.1:=eG.1 j;refine eG.2<|f.imp_of_mem λ{p q} hp hq h e=>h ?_;obtain⟨a,b⟩:=hb p.1<|bK.2 ⟨p,hp,rfl⟩;obtain⟨c,d⟩:=hb q.1<|bK.2 ⟨q,hq,rfl⟩;obtain⟨e1,e2⟩:=Th.pairs a b c d e;exact ig e1 e2
def Mf{w:ag}(h:iw S L=some (w.map .int))(hl:w.length<=9)(hw:∀x∈w,1<=x/\x<=1000000000) :
  ∃S',nK [.ref L] S=.ok (.int (Gn.G w 0 0:Nat)) S'/\mR S S':=by
 have kb:∀{val:Int×Int->Int} {N:Int} {e:List Gn.En},Gn.Up (·∈0::w) val N e->e.length<=100/\∀k∈e.map (·.1),(0<=k.1/\k.1<=1000000000)/\0<=k.2/\k.2<=1000000000:=λ{val N e} u=>by
  refine⟨bH (Nz u)<|Nat.mul_le_mul (show w.length+1<=10 by lia)<|show w.length+1<=10 by lia,λk hk=>?_⟩;have b:∀z∈0::w,0<=z/\z<=1000000000:=λz hz=>by
   rcases a_.1 hz with q|q
   ·subst q;exact⟨c6 _,by decide⟩
   ·have:=hw z q;lia
  obtain⟨k1,k2⟩:=u.ks k hk;exact⟨b _ k1,b _ k2⟩
 have lL:=mO h;unfold nK su sG;have dp:BU (qc<|iy (eC<|.int 0)<|iy (eC<|.int 0) iJ) (eC<|.int 0) [.ref L,.unb,.unb,.unb,.unb,.unb,.unb] S=.ok (.ref S.length) (S++[.dct<|ed [((0,0),0)]]):=by
  have t:qc (iy (eC<|.int 0)<|iy (eC<|.int 0) iJ) [.ref L,.unb,.unb,.unb,.unb,.unb,.unb] S=.ok (.tup [.int 0,.int 0]) S:=by dsimp[iX,bools,qL<|show([_,_]:ae).length<=16777216 by simp]
  unfold BU;rw[t];rfl
 dsimp[iX,bools,l7,Nat.reduceAdd,Nat.reduceSub,dp];have lm:((w.map A.int).length)=w.length:=aL ..;have k0:mR S (S++[O.dct<|ed [((0,0),0)]]):=Kp.refl.lay;refine Jt (n:=L) (xs:=w.map .int) (S1:=S++[.dct<|ed [((0,0),0)]]) (show sY _ _=_ from kX (by dsimp[iX,bools])<|k_ h)
  (λi τ S1=>∃n H F M a4 a5 a6,τ=[.ref L,.ref n,F,M,a4,a5,a6]/\S.length<=n/\jE S1 n=some (ed H)/\Gn.Best (·∈0::w) (Gn.G w 0 0) (w.drop i) H/\mR S S1)
  (λr=>∃S',RS.end (RS.seq r _)=.ok (.int (Gn.G w 0 0:Nat)) S'/\mR S S') ⟨_,_,_,_,_,_,_,rfl,aP _,AN,Gn.hd0 (aM ..) w,k0⟩ ?_ ?_ ?_
 ·rintro i τ S1 ⟨n,H,F,M,a4,a5,a6,rfl,hn,hd,d,k⟩;exact k.lst _ _ (λz=>z) h
 ·rintro i X τ S1 hX ⟨n,H,F,M,a4,a5,a6,rfl,hn,hd,d,k⟩;rw[aX]at hX;obtain⟨x,hx,rfl⟩:=bh.1 hX;obtain⟨hi,ex⟩:=aK.1 hx;have dr:w.drop i=x::w.drop (i+1):=by rw[bV hi,ex]
  rw[dr]at d;have mx:x∈0::w:=aN _<|bx hx;have Y:=Gn.Pe d mx;have Z:Gn.Up (·∈0::w) (Gn.vl<|w.drop<|i+1) (Gn.G w 0 0) H:=⟨d.up.nd,d.up.ks,λk m e=>by
   have:=d.up.le k m e;have:=Gn.L0 x (w.drop<|i+1) k.1 k.2;unfold Gn.vl at *
   lia⟩
  have J:∀j,((H.take j).foldl (Gn.tr x) H).length<900:=λj=>by
   have u:=(Gn.Aa (P:=H.take j) mx Z λp hp=>d.up.ent<|gf hp).1;have:=(kb u).1
   lia
  have C:H≠[]:=λz=>by
   obtain⟨k,m,e,_⟩:=d.at_;rw[z]at e;cases e
  have ne:ed H≠[]:=λz=>C<|eW.1 z;have cp:zK (.ref n) S1=.ok (.ref S1.length) (S1++[.dct<|ed H]):=by
   show opt (jE S1 n) _=_;rw[hd,iP];exact aR ⟨ne,Jb d.up.nd (kb d.up).2⟩
  have K:=qy<|jx hd;obtain⟨a4',a5',a6',e⟩:=HL (T:=S1++[.dct<|ed H]) (L:=L) (n:=n) (q:=S1.length) (x:=x) (a4:=a4) (a5:=a5) (a6:=a6) (J6 hd) AN () d.up.nd J;refine⟨_,S1,rfl,.inl ?_⟩;unfold tB;dsimp[iX,bools,cp,e];have ll:k.len=k.len:=rfl;have lS:=k.len;refine⟨_,_,rfl,S1.length,Gn.nx x H,_,_,_,_,_,rfl,lS,?_,Y,?_⟩
  ·exact wB (by rw[bG,aY];exact bD _)
  ·exact(k.lay.EL<|.inr hn).EL (.inr lS)
 ·rintro τ S1 ⟨n,H,F,M,a4,a5,a6,rfl,hn,hd,d,k⟩;rw[lm,f7]at d;have K:=qy<|jx hd;obtain⟨f,B⟩:∃f,f=S1.set n (O.dcf<|ed H):=⟨_,rfl⟩;have n0:m_ f n=some (ed H):=by
   unfold m_;rw[B,bF K]
  have kT:mR S f:=by rw[B];exact k.EL (.inr hn)
  have V:=(kb d.up).1;have cs:=HY (xs:=(ed H).map Nr) (cap:=[some 1]) (src:=Jo<|iu 1) (t:=jF) (e:=iL wF (iu 1)<|iu 0) (τ:=[.ref L,.ref n,F,M,a4,a5,a6]) (S:=S1) (S1:=f) (by
    show MG (.ref n) S1=_;show opt (jE S1 n) _=_;rw[hd,iP,<- B]) (λ_=>true) (λx=>match x with
     | .tup ks=>match A.ints ks with
      | some ns=>(jW (ed H) ns).getD .unb
      | none=>.unb
     | _=>.unb) (λ_ _=>rfl) (λx hx _=>by
      obtain⟨kv,W,rfl⟩:=bK.1 hx;obtain⟨p,hp,rfl⟩:=bK.1 W;have g:jW (ed H) [p.1.1,p.1.2]=some (.int p.2):=by
       rw[pY,Gn.y_ d.up.nd (m:=p.2) hp];rfl
      have ix:wF (.ref n) (.tup [.int p.1.1,.int p.1.2]) f=.ok (.int p.2) f:=by
       show opt (m_ _ n) _=_;rw[n0,iP];show opt (jW (ed H) [p.1.1,p.1.2]) _=_;rw[g,iP]
      show iL wF (iu 1) (iu 0) (.tup [.int p.1.1,.int p.1.2]::_) f=R.ok ((jW (ed H) [p.1.1,p.1.2]).getD .unb) f;rw[g];dsimp[iX,bools,ix];rfl)<|by unfold ed;rw[aL,aL];lia
  have U:((((ed H).map Nr).filter λ_=>true).map λx=>match x with
     | .tup ks=>match A.ints ks with
      | some ns=>(jW (ed H) ns).getD .unb
      | none=>.unb
     | _=>.unb)=(H.map (·.2)).map A.int:=by
   rw[cL.2 λ_ _=>rfl];unfold ed;rw[bL,bL,bL];refine eY λp hp=>?_;have g:jW (ed H) [p.1.1,p.1.2]=some (.int p.2):=by
    rw[pY,Gn.y_ d.up.nd (m:=p.2) hp];rfl
   show(jW (ed H) [p.1.1,p.1.2]).getD .unb=_;rw[g];rfl
  rw[U]at cs;have C:H.map (·.2)≠[]:=λz=>by
   obtain⟨k,m,e,_⟩:=d.at_;rw[eW.1 z]at e;cases e
  obtain⟨m,em,m1,m2⟩:=ya (S:=f++[O.lst<|(H.map (·.2)).map .int]) (n:=f.length) (ns:=H.map (·.2)) iR C;have mG:m=Gn.G w 0 0:=Gn.top d m1 m2;rw[mG]at em;refine⟨f++[O.lst<|(H.map (·.2)).map .int],?_,kT.lay⟩;dsimp[iX,bools,cs,em]
end K63
namespace K63
open PySem L2 Am
def ND{xs:ae}{j:Nat}:yG xs none (some (j:Int))=xs.take j:=by
 unfold yG;rw[HT.Jv,HT.FQ,cV,Nat.sub_zero];by_cases h:j<=xs.length
 ·rw[Nat.min_eq_left h]
 ·rw[Nat.min_eq_right (),d9 (),d9 ()]
def G7{S:iC}{n:Nat}{xs:ae}{i:Int}(h:iw S n=some xs)(j:Nat)(e:i=(j:Int)):Ou (.ref n) none (some i) S=.ok (.ref S.length) (S++[.lst<|xs.take j]):=by
 subst e;show opt (iw S n) _=_;rw[h,iP,ND]
def Gu{n:Nat}{ns:ag}(h:iw S n=some (ns.map .int)):Dt (.ref n) S=.ok (.int ns.sum) S:=by
 show opt (iw S n) _=_;rw[h,iP,ints_map,iP]
def RP(T:List<|ag):((T.map λr=>(r.length:Int)).take 1).sum=((T.getD 0 []).length:Int):=by
 cases T with
 | nil=>rfl
 | cons r T=>show(r.length:Int)+0=_;exact Int.add_zero _
def sum2(T:List<|ag):((T.map λr=>(r.length:Int)).take 2).sum=(((T.getD 0 []).length+(T.getD 1 []).length:Nat):Int):=by
 cases T with
 | nil=>rfl
 | cons r T=>
  cases T with
  | nil=>show(r.length:Int)+0=((r.length+0:Nat):Int);lia
  | cons u T=>show(r.length:Int)+((u.length:Int)+0)=((r.length+u.length:Nat):Int);lia
def L7{a b:Int}(h:a=b):uf true (.int a) (.int b) S=.ok (.bl false) S:=by
 subst h;have:vV S 12 (.int a) (.int a)=some true:=by show some (a == a)=_;rw[cA]
 rw[wI this];rfl
def NN{a b:Int}(h:a=b):uf false (.int a) (.int b) S=.ok (.bl true) S:=by
 subst h;have:vV S 12 (.int a) (.int a)=some true:=by show some (a == a)=_;rw[cA]
 rw[Aw this]
def GO{w:ag}{T:List<|ag}(hL:iw S L=some (w.map .int))(hM:iw S M=some ((T.map λr=>(r.length:Int)).map .int))(hl:w.length<=9)(hw:∀x∈w,1<=x/\x<=1000000000)(hT:w.foldl Tb.put []=T)(tl:T.length<=100) :
  ∃S',jk [.ref L,.ref M] S=.ok (.bl true) S'/\mR S S':=by
 obtain⟨J,V,P⟩:=Gn.main (M:=1000000001) (λx hx=>by have:=hw x hx;lia) hT;have k1:mR S (S++[O.lst<|((T.map λr=>(r.length:Int)).map A.int).take 1]):=Kp.refl.lay;have C:=G7 (i:=1) hM 1 rfl;have B:Dt (.ref S.length) (S++[O.lst<|((T.map λr=>(r.length:Int)).map A.int).take 1])=.ok (.int ((T.getD 0 []).length:Int)) (S++[O.lst<|((T.map λr=>(r.length:Int)).map A.int).take 1]):=by
  rw[<- RP];exact Gu<|by rw[map_take];exact iR
 obtain⟨S1,g⟩:∃S1,S1=S++[O.lst<|((T.map λr=>(r.length:Int)).map A.int).take 1]:=⟨_,rfl⟩;rw[<- g]at k1 C B;obtain⟨m1,S2,e2,k2,K,Y⟩:=GX (k1.lst _ _ (λz=>z) hL) () false;have q1:((T.getD 0 []).length:Int)=m1:=by
  rw[Gn.best (r:=Gn.le) (a0:=0) (λx hx=>Gn.le_iff.2 (by have:=hw x hx;lia)) K Y,J]
 have d:=k1.trans k2;obtain⟨m2,S3,U,k3,W,b3⟩:=GX (d.lst _ _ (λz=>z) hL) () true;have N:(T.length:Int)=m2:=by
  rw[Gn.best (r:=Gn.gt) (a0:=1000000001) (λx hx=>Gn.uP.2 (by have:=hw x hx;lia)) W b3,V]
 have f:=d.trans k3;have j:=d.lst _ _ (λz=>z) hM;have k:=f.lst _ _ (λz=>z) hM;have G:=G7 (i:=2) k 2 rfl;have F:Dt (.ref S3.length) (S3++[O.lst<|((T.map λr=>(r.length:Int)).map A.int).take 2])=.ok (.int (((T.getD 0 []).length+(T.getD 1 []).length:Nat):Int)) (S3++[O.lst<|((T.map λr=>(r.length:Int)).map A.int).take 2]):=by
  rw[<- sum2];exact Gu<|by rw[map_take];exact iR
 have t:mR S (S3++[O.lst<|((T.map λr=>(r.length:Int)).map A.int).take 2]):=f.lay;obtain⟨S4,m⟩:∃S4,S4=S3++[O.lst<|((T.map λr=>(r.length:Int)).map A.int).take 2]:=⟨_,rfl⟩;rw[<- m]at t G F;obtain⟨S5,e5,Z⟩:=Mf (t.lst _ _ (λz=>z) hL) hl hw;rw[P]at e5;refine⟨S5,?_,t.trans Z⟩;unfold jk j_ j4;dsimp[iX,bools,l7,Nat.reduceAdd,Nat.reduceSub,C,B,e2,L7 q1,j,aL,U,L7 N,G,F,e5,NN rfl]
def zg{S:iC}{n:Nat}{T:List<|ag}(h:Tab S n rs T)(j:T.length<=1000):jY [.ref n] S=.ok (.ref S.length) (S++[.lst<|(T.map λr=>(r.length:Int)).map .int]):=by
 have e:=sM (cap:=[]) (τ:=[.ref n]) (src:=jX<|iu 0) h (kX (by dsimp[iX,bools]) h.top) ();unfold jY qZ rO;dsimp[iX,bools,l7,Nat.reduceAdd,Nat.reduceSub,e]
end K63
namespace K63
open PySem L2 Am
def NU(ns:ag)(hl:ns.length<=63):∃S',vG [.frz<|ns.map .int] []=.ok (.bl true) S':=by
 generalize([]:iC)=S;unfold vG Gf HD;dsimp[iX,bools,l7,Nat.reduceAdd,Nat.reduceSub];generalize hM:(if (if (5:Int)<(ns.length:Int)then(5:Int)else(ns.length:Int))>2 then(if (5:Int)<(ns.length:Int)then(5:Int)else(ns.length:Int))else 2)=M;have M0:2<=M:=by rw[<- hM];split<;>lia
 have M1:M<=5:=by rw[<- hM];split<;>split<;>lia
 refine qU (lo:=0) (hi:=M) (S1:=S) (show AZ _ _=_ from pA (by dsimp[iX,bools,aL,hM])<|mU () ())
  (λi τ S1=>∃K C J V d,τ=[.frz<|ns.map .int,K,C,J,V,d])
  (λr=>∃S',RS.end (RS.seq r _)=.ok (.bl true) S') ⟨_,_,_,_,_,rfl⟩ ?_ ?_
 ·rintro i τ S1 hi ⟨K,C,J,V,d,rfl⟩;left;obtain⟨S2,e2,hb2,k2⟩:=Jx (S:=S1) (ns:=ns) (k:=0+(i:Int)) () ();obtain⟨w,L,S3,e3,g3,hx3,hx,hb3,k3,l3⟩:=zG (most:=9) hb2 ⋯ ⋯;have w9:w.length<=9:=()
  have cp:(f1 pM) [.ref L] S3=.ok (.ref S3.length) (S3++[O.lst<|w.map .int]):=by dsimp[iX,bools,g3]
  have k4:mR S3 (S3++[O.lst<|w.map .int]):=Kp.refl.lay;obtain⟨S4,N⟩:∃S4,S4=S3++[O.lst<|w.map .int]:=⟨_,rfl⟩;rw[<- N]at cp k4;have g4:=k4.lst _ _ (λz=>z) g3;obtain⟨rs,qs,n,m,S5,e5,hP,Z,k5,_,_,_⟩:=F2 (S:=S4) (L:=S3.length) (xs:=w) (by rw[N];exact iR) ();have g5:=k5.lst _ _ (λz=>z) g4;obtain⟨pr,er⟩:=Ky (xs:=w) () hx;obtain⟨p1,p2,p3,p4⟩:=pr.small;have s1:=zg hP ();have kA:mR S5 (S5++[O.lst<|((Tb.tabs w w.length).1.map λr=>(r.length:Int)).map .int]):=Kp.refl.lay;obtain⟨f,t⟩:∃f,f=S5++[O.lst<|((Tb.tabs w w.length).1.map λr=>(r.length:Int)).map .int]:=⟨_,rfl⟩;rw[<- t]at s1 kA;have s2:=zg (Z.xr kA) ();have kB:mR f (f++[O.lst<|((Tb.tabs w w.length).2.map λr=>(r.length:Int)).map .int]):=Kp.refl.lay;obtain⟨g,F⟩:∃g,g=f++[O.lst<|((Tb.tabs w w.length).2.map λr=>(r.length:Int)).map .int]:=⟨_,rfl⟩;rw[<- F]at s2 kB;have same:((Tb.tabs w w.length).1.map λr=>(r.length:Int))=(Tb.tabs w w.length).2.map λr=>(r.length:Int):=by
   have:=cj (List.map λn:Nat=>(n:Int))<|Tb.jC w w.length;rw[bL,bL]at this;exact this.symm
  have q1:uf true (.ref S5.length) (.ref f.length) g=.ok (.bl false) g:=by
   have h1:iw g S5.length=some (((Tb.tabs w w.length).1.map λr=>(r.length:Int)).map .int):=kB.lst _ _ (λz=>z) (by rw[t];exact iR);have h2:iw g f.length=some (((Tb.tabs w w.length).2.map λr=>(r.length:Int)).map .int):=by rw[F];exact iR
   rw[wI<|yM h1 h2,bu same];rfl
  have kC:=kA.trans kB;obtain⟨B,Y,e8,g8,k8,_⟩:=zX (hP.xr kC) (Z.xr kC) pr;rw[er]at g8;have kD:=kC.trans k8;have g9:=kD.lst _ _ (λz=>z) g5;have q2:=wI<|yM g8 g9;rw[bu rfl,fu]at q2;have hQ8:=Z.xr kD;have gl:kP (.ref L) Y=.ok (.int w.length) Y:=by dsimp[iX,bools,g9,aL]
  unfold A1;dsimp[iX,bools,e2,e3,cp,e5,jZ<|show([_,_]:ae).length=2 from rfl,s1,s2,q1,e8,q2];refine qU (lo:=0) (hi:=w.length+1) (S1:=Y) (show AK _ _=_ from pA (by dsimp[iX,bools,gl])<|mU () ())
   (λj τ T=>∃d,τ=[.frz<|ns.map .int,.int<|0+(i:Int),.ref L,.ref n,.ref m,d]/\mR Y T)
   (λr=>∃G S',r=.nx G S'/\∃K C J V d,G=[.frz<|ns.map .int,K,C,J,V,d]) ⟨_,rfl,Kp.refl⟩ ?_ ?_
  ·rintro j τ T hj ⟨d,rfl,W⟩;left;have P:j<=w.length:=()
   have gT:=W.lst _ _ (λz=>z) g9;have f1:=G7 (i:=0+(j:Int)) gT j ();have k1:mR T (T++[O.lst<|(w.map A.int).take j]):=Kp.refl.lay;obtain⟨T1,U⟩:∃T1,T1=T++[O.lst<|(w.map A.int).take j]:=⟨_,rfl⟩;rw[<- U]at f1 k1;have h1:iw T1 T.length=some ((w.take j).map .int):=by rw[U,map_take];exact iR
   obtain⟨M2,T2,f2,h2,k2⟩:=NC (m:=0+(j:Int)) ((hQ8.xr W).xr k1) () (λi=>by have:=p4 i;lia);rw[show(0:Int)+(j:Int)=(j:Int)by lia,FG P]at h2;have tl:((w.take j).foldl Tb.put []).length<=100:=by
    have:=(Tb.uQ w j).1;rw[Mo.l_ w j P]at this
    lia
   obtain⟨T3,f3,k3⟩:=GO (k2.lst _ _ (λz=>z) h1) h2 (by rw[b8];lia) (λx hx'=>hx x<|gf hx') rfl tl;unfold CW;dsimp[iX,bools,f1,f2,f3];exact⟨_,_,rfl,_,rfl,((W.trans k1).trans k2).trans k3⟩
  ·rintro τ T ⟨d,rfl,W⟩;exact⟨_,_,rfl,_,_,_,_,_,rfl⟩
 ·rintro τ S1 ⟨K,C,J,V,d,rfl⟩;dsimp[iX,bools];exact⟨_,rfl⟩
end K63
namespace K63
open PySem L2 Am
def all_mk{l:PySem.W.OpenLaw}{w:af}{K:aA}{h:au}{mg:Str->bi}{fa:aq}(X:K.In h)(G:h.Ns mainGlobals mg)(hfa:mg "law" = some (.ref fa))
  (a1:Df K "is_whole" qk)
  (a2:Df K "is_letter" pP)
  (a3:Df K "is_letters" n_)
  (a4:Df K "is_table_row" mF)
  (a5:Df K "fits_under" n8)
  (a6:Df K "is_table" qB)
  (a7:Df K "first_greater" lO)
  (a8:Df K "put_into_rows" lF)
  (a9:Df K "copied" uZ)
  (a10:Df K "tables" um)
  (a11:Df K "shape" wQ)
  (a12:Df K "is_pair_of_tables" j7)
  (a13:Df K "last_smaller" mD)
  (a14:Df K "take_out" qp)
  (a15:Df K "row_back" qH)
  (a16:Df K "_law_bag" sH)
  (a17:Df K "_law_digit" pW)
  (a18:Df K "_law_letters" nB)
  (a19:Df K "_law_longest" nI)
  (a20:Df K "_law_two" r6)
  (a21:Df K "_law_cut" sR)
  (a22:Df K "_law_lengths_right" j3)
  (a23:Df K "law" G2)
  (Uy:PySem.W.nsIn K mainGlobals "isinstance" = some none)
  (Uz:PySem.W.nsIn K mainGlobals "bool" = some none)
  (UA:PySem.W.nsIn K mainGlobals "int" = some none)
  (UB:PySem.W.nsIn K mainGlobals "all" = some none)
  (UC:PySem.W.nsIn K mainGlobals "list" = some none)
  (UD:PySem.W.nsIn K mainGlobals "sorted" = some none)
  (UE:PySem.W.nsIn K mainGlobals "len" = some none)
  (UG:PySem.W.nsIn K mainGlobals "zip" = some none)
  (UH:PySem.W.nsIn K mainGlobals "range" = some none)
  (UI:PySem.W.nsIn K mainGlobals "enumerate" = some none)
  (UJ:PySem.W.nsIn K mainGlobals "max" = some none)
  (UK:PySem.W.nsIn K mainGlobals "dict" = some none)
  (UL:PySem.W.nsIn K mainGlobals "sum" = some none)
  (UM:PySem.W.nsIn K mainGlobals "min" = some none)
  {Uw:Tok} (UN:PySem.W.nsIn K mainGlobals "GREATEST_LETTER" = some (some<|.int 1000000000 Uw))
  {Ux:Tok} (UO:PySem.W.nsIn K mainGlobals "MOST_LETTERS" = some (some<|.int 40 Ux))
  : ∃fd:FuncData,(∀(s:aE) (v:aa),BindsTo s fd ⟨[v],[]⟩ [("_law_script",v)])/\∀base:au,K.In base->base.Ns mainGlobals mg->FnOk l.prog w K mg base qa 8 fa fd ["_law_script"] (qO K 1 vG):=by
 obtain⟨f,fd,a,F⟩:=a23;have e:=hfa.symm.trans (gQ X G a)
 cases e
 have k:=bR X G Uy;have T5:=bR X G Uz;have U:=bR X G UA;have z:=bR X G UB;have j:=bR X G UC;have C:=bR X G UD;have d:=bR X G UE;have Ua:=bR X G UG;have g:=bR X G UH;have B:=bR X G UI;have m:=bR X G UJ;have Ul:=bR X G UK;have TZ:=bR X G UL;have O:=bR X G UM;have T7:∃t,mg "GREATEST_LETTER" = some (.int 1000000000 t):=⟨Uw,gQ X G UN⟩;have Ug:∃t,mg "MOST_LETTERS" = some (.int 40 t):=⟨Ux,gQ X G UO⟩;refine⟨fd,λs v=>(by obtain⟨_,_,_,_,_,_,_,_,_,rfl,_,_⟩:=F.ex;exact .of_eq rfl),λbase _ _=>?_⟩;have E:En l.prog w K mg base:=⟨h,X,G⟩;have T8:=a1.kA E (λF=>yH F k T5 U)<|I0 λ_ _ _ _ _ _ _=>rfl;have P:=a2.kA E (λF=>xB F T7 T8)<|I0 λ_ _ _ _ _ _ _=>rfl;have M:=a3.kA E (λF=>vE F z k j P)<|I0 λ_ _ _ _ _ _ _=>rfl;have Ub:=a4.kA E (λF=>tP F C d M)<|I0 λ_ _ _ _ _ _ _=>rfl;have Uc:=a5.kA E (λF=>vD F z Ua d)<|BF λ_ _ _ _ _ _ _ _=>rfl;have TY:=a6.kA E (λF=>yE F z k j g d Ub Uc)<|I0 λ_ _ _ _ _ _ _=>rfl;have Y:=a7.kA E (λF=>r_ F d)<|BF λ_ _ _ _ _ _ _ _=>rfl;have N:=a8.kA E (λF=>sJ F d Y)<|BF λ_ _ _ _ _ _ _ _=>rfl;have Uj:=a9.kA E (λF=>DW F j)<|I0 λ_ _ _ _ _ _ _=>rfl;have Us:=a10.kA E (λF=>DB F B d N)<|I0 λ_ _ _ _ _ _ _=>rfl;have J:=a11.kA E (λF=>Hi F d)<|I0 λ_ _ _ _ _ _ _=>rfl;have Z:=a12.kA E (λF=>pJ F C j g d Ug J TY)<|BF λ_ _ _ _ _ _ _ _=>rfl;have Uh:=a13.kA E (λF=>tQ F d)<|BF λ_ _ _ _ _ _ _ _=>rfl;have V:=a14.kA E (λF=>zc F g Uh)<|BF λ_ _ _ _ _ _ _ _=>rfl;have Ut:=a15.kA E (λF=>xS F B g d Z Uj V)<|BF λ_ _ _ _ _ _ _ _=>rfl;have Ur:=a16.kA E (λF=>Ai F d)<|BF λ_ _ _ _ _ _ _ _=>rfl;have TX:=a17.kA E (λF=>wJ F)<|BF λ_ _ _ _ _ _ _ _=>rfl;have Uq:=a18.kA E (λF=>uF F g TX)<|BF λ_ _ _ _ _ _ _ _=>rfl;have T4:=a19.kA E (λF=>uG F g d m)<|BF λ_ _ _ _ _ _ _ _=>rfl;have L:=a20.kA E (λF=>zF F Ul m)<|I0 λ_ _ _ _ _ _ _=>rfl;have Uv:=a21.kA E (λF=>Aj F d)<|BF λ_ _ _ _ _ _ _ _=>rfl;have Uu:=a22.kA E (λF=>pU F d TZ T4 L)<|BF λ_ _ _ _ _ _ _ _=>rfl;exact Nu F g m O d j Uq Ur Us Ut J Uu Uv
def walk{l:PySem.W.OpenLaw}{q:ah}{M:(Str->bi)->au->Prop}{L:af->au->Prop}{d:DefRec}{K:Params->aA}(hn:l.most=some 63)(J:d.params.defaults=[])
  (U:∀(w:af) (h:au),L w h->(K w.params).In h)
  (F:∀(w:af) (mg:Str->bi) (fa:aq) (h:au),(K w.params).In h->h.Ns mainGlobals mg->mg d.name=some (.ref fa) ->
   ∃fd:FuncData,(∀(s:aE) (u:aa),BindsTo s fd ⟨[u],[]⟩ [("_law_script",u)])/\∀base:au,(K w.params).In base->base.Ns mainGlobals mg->FnOk l.prog w (K w.params) mg base qa 8 fa fd ["_law_script"] (qO (K w.params) 1 vG)) :
  PySem.W.WalkO q loose M L l.row.toRowW d [] (λf vs=>PySem.call f vs):=
 L2.JQ (n:=63) (k:=8) (x := "_law_script") (CX:=λ_=>qa) (sp:=λw=>qO (K w.params) 1 vG) hn ⋯ J ⟨rfl,by decide,by decide,rfl⟩ U F (λ_ H a g t m j=>DK m j<|NU g t) λ_ _ _ _ _ z=>z
end K63
open PySem PySem.W PyProof.Rows
namespace PySem.W.Fast
local macro_rules|`(command|universe $x*)=>do return Lean.mkNullNode (←x.mapM λx=>`(command|def $x:ident:=Nat))
universe tw10038013992953592313 tw12755100824205727052 tw8239352942243695284 tw3869710549137078224 tw8889474075459006809 tw529979511180738199 tw8674666600736237291 tw4731803847699761699 tw11735585232174078626 tw10958219363436885920 tw7109355348030173833 tw4620940107248612029 tw454532900152276666 tw10675029505570601283 tw10084117496135506387 tw9379309084975317606 tw203614262876005559 tw4051026918930864182 tw2769313138406930364 tw7600763155048971921 tw5797379034518209476 tw577158865151234758 tw5854011101315943681 tw2373480058226416545 tw12323214074798040874 tw9677220879032112399 tw6712056114018536181 tw7099327815847398286 tw7982139267536172868 tw2504200829416317420 tw3332239583940432874 tw3230673856827389926 tw18253244991565176363 tw10198338259756386457 tw4029850909360546292 tw12066276856570988829 tw894357720957454805 tw9579985431041053944 tw1719122250799601788 tw17603515715293051124 tw7553253754555503514 tw8786820826248590286 tw14711185882400836451 tw9346068944106534613 tw5841252089099004344 tw13357252075729495628 tw3172794110000703154 tw13668786988790118528 tw13555526899409965408 tw8211449083369872849 tw14016443658095069293 tw3913694599895977841 tw16655329637132629019 tw11445091957630537289 tw17710561103646776221 tw12215748451840507584 tw13301042287665448348 tw8668998325580308717 tw8678376512897336521 tw7591487798497668356 tw653967433400244474 tw14395339642017889399 tw13992555127844492639 tw3881149923063488175 tw6941593495143652595 tw9594015999730224077 tw16379916520248058304 tw2151474256194575335 tw10430784387613975963 tw6389050102741103141 tw2724921182669104916 tw5835962979453421786 tw4554221517606634922 tw2871273296125708670 tw5303406722752141584 tw10492020781567410319 tw9385094137437942442 tw5014676545314871295 tw13509053557794212553 tw3564947670663606925 tw13353020840517717612 tw15401956868075176580 tw16194030376779333915 tw1610068327509726409 tw12918542043553658385 tw8798442965142343736 tw11132494283550703927 tw6665947022274265862 tw4359635845298118316 tw3555455532886765391 tw16249195014492019479 tw15873742970793313583 tw15966069543275748673 tw10564869226550504844 tw9317255725404657942 tw2888611237366610750 tw11983041682467932818 tw514061217592086841 tw112482922350493680 tw7761833107771522831 tw8889850928434347782 tw13788454033585866885 tw15716669477495142881 tw9119513254964643228 tw17344549678164853875 tw13071897626940952244 tw6292772455801232354 tw5734889664195514768 tw11361976909301791869 tw2345228581149494275 tw6539500730678418679 tw1392226219752771738 tw5700246827482384377 tw5655243180584459760 tw11373463998368221715 tw15180820727560293672 tw1860173869935335307 tw4788392052179103780 tw1354390506670035777 tw13717120295437551993 tw2095475224121940988 tw4690605794964212415 tw17866010871800179295 tw14994159399460136747 tw16839235986528899461 tw16889295531680037526 tw2554765226970556194 tw3627972001129398903 tw14070390964077078315 tw16011187283125915186 tw16257873259314346330 tw11544968222919490031 tw17127228353226912714 tw2749476463001238669 tw6321306940468769985 tw11546687673573095767 tw3319079416222823660 tw16827115832108836919 tw1694494465812255472 tw8333991190302160460
end PySem.W.Fast
set_option maxRecDepth 100000 in
set_option maxHeartbeats 0 in
theorem PySem.Challenge.cw_undercells_k63_whole_longest_picks_holds : PySem.Challenge.rw_undercells_k63_whole_longest_picks.Holds := by
 w_on;o_law;k_head;(case hw=>w_witness2)
 k_fill
 refine K63.walk (l:=PySem.Challenge.rw_undercells_k63_whole_longest_picks) rfl rfl (fun w h Y=>PySem.W.kIn_of Y) ?F
 case F=>
  intro w mg fa h KX G hmg;refine' K63.all_mk KX G hmg (.of ?_ ?_ ?_ ?_) (.of ?_ ?_ ?_ ?_) (.of ?_ ?_ ?_ ?_) (.of ?_ ?_ ?_ ?_) (.of ?_ ?_ ?_ ?_) (.of ?_ ?_ ?_ ?_) (.of ?_ ?_ ?_ ?_) (.of ?_ ?_ ?_ ?_) (.of ?_ ?_ ?_ ?_) (.of ?_ ?_ ?_ ?_) (.of ?_ ?_ ?_ ?_) (.of ?_ ?_ ?_ ?_) (.of ?_ ?_ ?_ ?_) (.of ?_ ?_ ?_ ?_) (.of ?_ ?_ ?_ ?_) (.of ?_ ?_ ?_ ?_) (.of ?_ ?_ ?_ ?_) (.of ?_ ?_ ?_ ?_) (.of ?_ ?_ ?_ ?_) (.of ?_ ?_ ?_ ?_) (.of ?_ ?_ ?_ ?_) (.of ?_ ?_ ?_ ?_) (.of ?_ ?_ ?_ ?_) ?_ ?_ ?_ ?_ ?_ ?_ ?_ ?_ ?_ ?_ ?_ ?_ ?_ ?_ ?_ ?_
  any_goals first|k_is|kernel_rfl
