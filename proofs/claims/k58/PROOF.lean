import PyProof.Rows.All
import Wide.All
import OpenK.AllK
import Wide.FinOn
import Lean
import PyProof.EqAt
import PyProof.EqKinds
import PyProof.TupleCall
import PySem.Challenge.RW_undercells_k58_rows_back
set_option autoImplicit true
set_option relaxedAutoImplicit true
set_option Elab.async false
set_option linter.all false
set_option maxRecDepth 100000
set_option compiler.extract_closed false
set_option maxHeartbeats 4000000
local macro_rules|`(command|abbrev $n:declId $s:optDeclSig $v:declVal)=>`(command|noncomputable def $n:declId $s:optDeclSig $v:declVal)|`(command|meta abbrev $n:declId $s:optDeclSig $v:declVal)=>`(command|@[reducible]noncomputable def $n:declId $s:optDeclSig $v:declVal)
local macro_rules|`(∅)=>`(by decide +kernel)
local macro_rules|`(⋯)=>`(by decide)
local macro_rules|`(tactic|dsimp[$l,*])=>`(tactic|simp only[$l,*])|`(tactic|dsimp[$l,*]$o:location)=>`(tactic|simp only[$l,*]$o:location)
local macro_rules(kind:=Lean.Parser.Term.structInst)|`({})=>`({cls:=.type "list",data:=.seq ([]:List PySem.Value).toArray})
set_option hygiene false
local macro_rules|`(tactic|room)=>`(tactic|intro X hP hw hK hc i pins s σ H E I hf st hg)
local macro_rules|`(tactic|z_go)=>`(tactic|obtain⟨ρ,S,τ,R,r,h⟩:=h9)
local macro_rules|`(tactic|x_go)=>`(tactic|obtain⟨ρ,S,a,b,R,va,vb,h⟩:=h9)
local macro_rules|`(tactic|w_up)=>`(tactic|obtain⟨f0,f1,f2,f3,f4,f5⟩:=hf it (by simp))
local macro_rules|`(tactic|fin2)=>`(tactic|intro pins s σ H Q I h)
local macro_rules|`(tactic|k_ne)=>`(tactic|have hfree:∀y∈scope.names,y.2=.free->∃c,X.env.cells.lookup y.1=some c:=λy hy e=>I.ok.has _ (S.fr y hy e))
local macro_rules|`(tactic|kt_k)=>`(tactic|intro pins s σ H x y v u Q I rx ry h)
local macro_rules|`(tactic|kd_p)=>`(tactic|refine I3.wj (ch:=fp) I6.os ⟨λb o e n hb hx=>?_,λb o e n hb hx=>?_,λb o e n hx=>?_,λb o e hx=>?_,u6.tups,u6.frzs,u6.tbls⟩ ?_ I6.bare ?_)
local macro_rules|`(tactic|gn_on)=>`(tactic|intro pins s σ H xs us Q I r h)
local macro_rules|`(tactic|gp_on)=>`(tactic|refine⟨ρ3,S3,τ3,x,τ4,S4,R4,r3.ext e4,v4,hg4,λρ5 H5 σ5 e5 R5 r5=>⟨ρ5,S4,τ4,b,S5,R5,r5,ht5,λρ6 H6 e6 R6=>?_⟩⟩)
local macro_rules|`(tactic|kj_on)=>`(tactic|refine⟨m',hm,i+1,σ8,H10,I10.jt,T.keep _ _ _ st7 λb hb o e=>(I10.pin (b,o) (aP _ (aP _ (ig hb e)))).1,λb hb=>?_,w10⟩)
local macro_rules|`(tactic|kcf_m)=>`(tactic|refine aJ (iN h6 λ_ s7 ⟨x,H7,I7,r7,y7,st7,fr7⟩=>?_))
local macro_rules|`(tactic|kcj_m)=>`(tactic|refine⟨hn b hb,(ok.exf b hb).1,ok.exfs b hb,.inl hb,λx c e=>(ok.exf b hb).2 x c e,λp hp=>nomatch hp⟩)
local macro_rules|`(tactic|kpc_g)=>`(tactic|obtain⟨xs,hn,h⟩:=gE h)
local macro_rules|`(tactic|kpf_c)=>`(tactic|intro pins s σ H D I h)
local macro_rules|`(tactic|ksr_p)=>`(tactic|obtain⟨w,rfl,ρ,S,x,R,hv,h⟩:=ID h0)
local macro_rules|`(tactic|kst_p)=>`(tactic|refine aJ (p_ (hg _ _ _ fp _ s7 σ5 H7 x u _ I7' r7 (step x H7 y7)) λ_ s8 ⟨σ8,H8,I8,q8⟩=>?_))
local macro_rules|`(tactic|kln_w)=>`(tactic|obtain⟨ρ,S,τ,R,r,h⟩:=h)
local macro_rules|`(tactic|kl_no)=>`(tactic|refine q x τ1 S1 b S2 hx h1 h2 (λhb=>?_) λhb=>?_)
local macro_rules|`(tactic|mg_lt)=>`(tactic|exact I1.sY (aN _) (I1.hok.fresh (aN _)))
local macro_rules|`(tactic|cb_eq)=>`(tactic|exact(I10.pin (b,o) (aP _ (aP _ (ig hb e)))).2.1)
local macro_rules|`(tactic|o_rec)=>`(tactic|have I7':=I7.pinned (stat fr7) (T.obj _ _ st7))
set_option hygiene true
local macro_rules|`(())=>`(by lia)
@[reducible]def ag:=List Int
@[reducible]def am:=List Nat
@[reducible]def ap:=List PySem.Str
@[reducible]def ar:=List PySem.Value
@[reducible]def ba:=List PySem.Addr
@[reducible]def be:=Option PySem.Value
@[reducible]def bi:=Option Bool
@[reducible]def bj:=Option Nat
@[reducible]def bn:=List<|PySem.Addr×PySem.Obj
def aF:=@List.getElem?_eq_getElem
def aG:=@List.getD_eq_getElem?_getD
def aH:=@List.length_map
def aI:=@List.getElem?_eq_some_iff
def aJ:=@PySem.wpAny_bind
def aK:=@List.mem_cons_of_mem
def aM:=@List.length_append
def aN:=@Nat.le_refl
def aO:=@List.getElem?_append_left
def aP:=@List.mem_append_right
def aQ:=@List.mem_singleton
def aR:=@Option.some.inj
def aS:=@List.getElem?_map
def aT:=@PySem.wpAny_pure
def aU:=@List.size_toArray
def aV:=@PySem.Heap.lt_size
def aW:=@PySem.Heap.get?_push_of_some
def aX:=@if_pos
def aY:=@List.mem_cons_self
def aZ:=@if_neg
def a_:=@decide_eq_true
def bf:=@List.mem_of_getElem?
def bg:=@Option.map_eq_some_iff
def bh:=@Bool.false_ne_true
def br:=@List.mem_cons
def bu:=@Nat.ne_of_lt
def bw:=@Nat.lt_succ_self
def bx:=@Option.bind_some
def bz:=@decide_eq_false
def bA:=@List.length_set
def bB:=@List.length_cons
def bC:=@List.mem_append
def bD:=@List.nodup_cons
def bE:=@List.flatten_cons
def bF:=@List.map_append
def bG:=@Nat.lt_of_lt_of_le
def bH:=@List.map_cons
def bI:=@PySem.F.slot_list_append
def bJ:=@PySem.F.type_list_append
def bK:=@List.append_assoc
def bM:=@List.getElem?_set_ne
def bN:=@Option.bind_eq_some_iff
def bO:=@List.getElem?_set_self
def bQ:=@PySem.W.mg_none_of
def bR:=@PySem.Heap.get?_push_size
def bT:=@List.getElem?_append_right
def bV:=@List.map_map
def bW:=@PySem.wpAny_standAt
def bX:=@List.length_pos_iff
def bY:=@Nat.sub_self
def bZ:=@List.append_nil
def b5:=@PySem.PassesOwn.never
def b6:=@Nat.le_trans
def b7:=@PySem.W.kia_one
def b8:=@List.getElem_mem
def b9:=@PySem.mem_of_lookup
def b_:=@congrArg
def cg:=@PyProof.Rows.callWith_type1
def cj:=@Nat.not_lt_zero
def cu:=@List.mem_map
def cy:=@List.nodup_append
def cz:=@List.replicate_succ
def cA:=@List.find?_cons
def cB:=@Ne.symm
def cC:=@List.pairwise_iff_getElem
def cD:=@beq_self_eq_true
def cE:=@Nat.le_of_lt
def cF:=@Bool.not_true
def cG:=@PySem.sizeLine_eq
def cH:=@PySem.wpAny_newObj_type
def cI:=@List.pairwise_singleton
def cJ:=@List.filter_eq_self
def cK:=@List.map_nil
def cL:=@List.drop_of_length_le
def cM:=@PySem.wpAny_holding
def cN:=@Nat.zero_le
def cO:=@List.sum_cons
def cP:=@List.lookup_cons
def cQ:=@List.prefix_refl
def cR:=@List.mem_flatten
def cS:=@PySem.wpAny_mono
def cT:=@List.drop_zero
def cU:=@List.length_replicate
def cV:=@List.set_eq_take_append_cons_drop
def cW:=@List.getElem?_eq_none_iff
def cX:=@List.drop_eq_getElem_cons
def cY:=@List.getLast?_eq_getElem?
def cZ:=@PySem.wpAny_passesOwn
def c6:=@PySem.wpAny_truthy_bool
def c7:=@List.forall_mem_cons
def c8:=@Nat.lt_or_ge
def c9:=@Option.isSome_iff_exists
def c_:=@PyProof.Rows.slot_tuple_getitem
def dc:=@Array.length_toList
def dh:=@List.getElem?_replicate
def di:=@Option.getD_some
def dm:=@PySem.Heap.size_push
def dw:=@List.getElem?_cons_succ
def dz:=@PySem.W.cellsFrom_some
def dB:=@List.map_const'
def dD:=@List.any_cons
def dF:=@List.perm_append_comm
def dG:=@List.getElem?_set
def dH:=@List.mem_append_left
def dI:=@List.length_dropLast
def dJ:=@List.mem_iff_getElem
def dM:=@List.Perm.refl
def dN:=@List.findIdx_getElem
def dO:=@List.pairwise_append
def dP:=@Int.le_refl
def dQ:=@List.length_take
def dR:=@Bool.and_eq_true
def dS:=@List.getLastD_eq_getLast?
def dU:=@beq_eq_false_iff_ne
def dW:=@List.replicate_zero
def dX:=@Nat.lt_irrefl
def dY:=@List.getElem?_take_of_lt
def dZ:=@PySem.F.args_tuple_add_2
def d7:=@PySem.wpAny_comprehension_free
def d8:=@List.filter_map
def d9:=@List.range_succ
def d_:=@List.prefix_append
def ee:=@List.length_range'
def ef:=@Int.emod_lt_of_pos
def eg:=@PySem.F.entry_tuple_add
def eo:=@PySem.F.slot_tuple_add
def ez:=@List.reverse_cons
def eB:=@List.pairwise_map
def eF:=@decide_eq_true_eq
def eG:=@List.range_succ_eq_map
def eK:=@List.findIdx_le_length
def eL:=@List.not_of_lt_findIdx
def eN:=@Int.zero_add
def eO:=@List.set_getElem_self
def eS:=@Nat.add_sub_add_right
def eU:=@List.take_append_drop
def eV:=@List.filter_cons
def eW:=@Nat.succ_lt_succ
def eX:=@List.perm_middle
def eY:=@List.getLast?_eq_some_getLast
def eZ:=@List.eq_nil_of_length_eq_zero
def e_:=@PySem.wpAny_execs_nil
def ff:=@Int.emod_nonneg
def fh:=@Option.map_some
def fj:=@List.dropLast_concat_getLast
def fy:=@List.filterMap_cons
def fB:=@List.length_reverse
def fC:=@List.flatten_append
def fD:=@PySem.codeAny_mono
def fE:=@PySem.codeAny_loop
def fF:=@List.mem_range
def fG:=@PySem.wpAny_Call_Name_kw
def fH:=@Bool.false_eq_true
def fJ:=@if_false
def fK:=@PySem.wpAny_rule
def fL:=@List.pairwise_cons
def fM:=@List.nodup_iff_pairwise_ne
def fN:=@PySem.wpAny_noted
def fO:=@List.length_range
def fQ:=@of_decide_eq_true
def fR:=@PySem.Paired.length
def fS:=@PySem.W.mg_of
def fU:=@List.getElem_inj
def fV:=@Nat.succ_le_succ
def fW:=@List.getElem_map
def fX:=@List.take_length
def fY:=@List.length_drop
def fZ:=@Nat.ne_of_gt
def f6:=@List.set_set
def f7:=@Int.add_comm
def f9:=@List.of_mem_zip
def f_:=@List.nil_append
def gb:=@Int.le_antisymm
def gc:=@List.length_nil
def gf:=@Bool.or_eq_true
def gg:=@List.nodup_nil
def gh:=@List.take_succ
def gi:=@if_true
@[reducible]def aa:=PySem.Value
@[reducible]def af:=PySem.World
@[reducible]def ah:=PySem.Program
@[reducible]def aj:=PySem.Addr
@[reducible]def ak:=PySem.Heap
@[reducible]def aq:=PySem.W.Frag
@[reducible]def au:=PySem.Around
@[reducible]def aA:=PySem.Shared
@[reducible]def aC:=PySem.Expr
@[reducible]def aE:=PySem.Stmt
def anI{a b:Prop}(h:a)(k:b):a/\b:=⟨h,k⟩
open List (map_set)
open Nat (not_lt)
open Option (isSome_some)
namespace L2
open PySem PySem.Spec PyProof.Rows
meta abbrev Key:=Sum Int Str
abbrev um:Key->aa->Bool
 | .inl k,v=>Value.isInt k v
 | .inr x,v=>Value.isStrOf x v
abbrev Mp (w:af):Key->Int
 | .inl k=>hashInt k
 | .inr x=>hashStr w x
def iM:∀{k:Key}{v:aa},um k v=true->(∃i t,k=Sum.inl i/\v=Value.int i t)\/(∃x t,k=Sum.inr x/\v=Value.str x t)
 | .inl i,v,h=>by
  obtain⟨t,e⟩:=Value.isInt_shape (k:=i) (v:=v) h;exact .inl ⟨i,t,rfl,e⟩
 | .inr x,v,h=>by
  obtain⟨t,e⟩:=Value.isStrOf_shape (x:=x) (v:=v) h;exact .inr ⟨x,t,rfl,e⟩
def BK(i:Int)(t:Tok):um (.inl i) (.int i t)=true:=by simp[um,Value.isInt]
def Bt(x:Str)(t:Tok):um (.inr x) (.str x t)=true:=by simp[um,Value.isStrOf]
def JT(a b:Int):decide ((Sum.inl a:Key)=Sum.inl b)=(a == b):=by
 by_cases e:a=b
 ·subst e;simp
 ·have h:¬(Sum.inl a:Key)=Sum.inl b:=λq=>e<|Sum.inl.inj q;rw[bz h];exact(dU.mpr e).symm
def Jp(a b:Str):decide ((Sum.inr a:Key)=Sum.inr b)=decide (a=b):=by
 by_cases e:a=b
 ·subst e;simp
 ·have h:¬(Sum.inr a:Key)=Sum.inr b:=λq=>e<|Sum.inr.inj q;rw[bz h,bz e]
def H_(a:Int)(b:Str):decide ((Sum.inl a:Key)=Sum.inr b)=false:=bz λq=>nomatch q
def HY(a:Str)(b:Int):decide ((Sum.inr a:Key)=Sum.inl b)=false:=bz λq=>nomatch q
abbrev iW (prog:ah)(w:af):PySem.KeyKind prog w Key where
 is:=um
 hash:=Mp w
 inj:=λv a b d hb=>by
  rcases iM d with⟨i,t,rfl,rfl⟩|⟨x,t,rfl,rfl⟩
  ·rcases iM hb with⟨j,u,rfl,e⟩|⟨y,u,rfl,e⟩
   ·injection e with e1 _;rw[e1]
   ·exact nomatch e
  ·rcases iM hb with⟨j,u,rfl,e⟩|⟨y,u,rfl,e⟩
   ·exact nomatch e
   ·injection e with e1 _;rw[e1]
 byValue:=λk v h=>by
  rcases iM h with⟨i,t,rfl,rfl⟩|⟨x,t,rfl,rfl⟩<;>rfl
 pyHash:=λhv h=>by
  rcases iM hv with⟨i,t,rfl,rfl⟩|⟨x,t,rfl,rfl⟩
  ·exact wpAny_pyHash_int h
  ·exact wpAny_pyHash_str h
 eqBool:=λf hv h=>by
  rcases iM f with⟨i,t,rfl,rfl⟩|⟨x,t,rfl,rfl⟩
  ·rcases iM hv with⟨j,u,rfl,rfl⟩|⟨y,u,rfl,rfl⟩
   ·rw[JT]at h;exact wpAny_eqBool_int h
   ·rw[H_]at h;exact SeqAt.EqAt.int_str i t y u _ _ _ _ h
  ·rcases iM hv with⟨j,u,rfl,rfl⟩|⟨y,u,rfl,rfl⟩
   ·rw[HY]at h;exact SeqAt.EqAt.str_int x t j u _ _ _ _ h
   ·rw[Jp]at h;exact wpAny_eqBool_str h
 «strs»:=λk x t v h=>by
  rcases iM h with⟨i,u,rfl,e⟩|⟨y,u,rfl,e⟩
  ·exact nomatch e
  ·injection e with e1 _
   subst e1
   cases v<;>rfl
def v8(prog:ah)(w:af)(i:Int)(t:Tok):(iW prog w).is (.inl i) (.int i t)=true:=BK i t
def wz(prog:ah)(w:af)(x:Str)(t:Tok):(iW prog w).is (.inr x) (.str x t)=true:=Bt x t
inductive V where
 | non|bl (b:Bool)|int (i:Int)|str (x:Str)|byt (b:Array UInt8)|flt (b:UInt64)|ref (a:aj)|ty (n:String)
 deriving DecidableEq
abbrev RelV:V->aa->Prop
 | .non,u=>u=Value.none
 | .bl b,u=>u=Value.bool b
 | .int i,u=>∃t,u=Value.int i t
 | .str x,u=>∃t,u=Value.str x t
 | .byt b,u=>∃t,u=Value.bytes b t
 | .flt b,u=>∃t,u=Value.float b t
 | .ref a,u=>u=Value.ref a
 | .ty n,u=>u=Value.type n
meta abbrev Vals:List V->ar->Prop:=Paired RelV
def Vals.length{xs:List V}{us:ar}(r:Vals xs us):xs.length=us.length:=fR r
theorem Vals.get:∀{xs:List V}{us:ar}{i:Nat}{x:V},Vals xs us->xs[i]?=some x->∃u,us[i]?=some u/\RelV x u
 | _,_,_,_,.nil,e=>by simp at e
 | _,_,0,_,.cons r _,e=>by simp at e;subst e;exact⟨_,rfl,r⟩
 | _,_,i+1,x,.cons _ t,e=>by
  obtain⟨u,h1,h2⟩:=Vals.get (i:=i) (x:=x) t (by simpa using e);exact⟨u,by simpa using h1,h2⟩
theorem Vals.set{x:V}(r:RelV x u):∀{xs:List V}{us:ar}(i:Nat),Vals xs us->Vals (xs.set i x) (us.set i u)
 | _,_,_,.nil=>.nil
 | _,_,0,.cons _ t=>.cons r t
 | _,_,i+1,.cons q t=>.cons q<|Vals.set r i t
theorem Vals.append:∀{xs ys:List V}{us ws:ar},Vals xs us->Vals ys ws->Vals (xs++ys) (us++ws)
 | _,_,_,_,.nil,s=>s
 | _,_,_,_,.cons r t,s=>.cons r<|Vals.append t s
abbrev sD:Option V->be->Prop
 | some v,some u=>RelV v u
 | none,none=>True
 | _,_=>False
abbrev KV {κ:Type}:List (κ×V)->List (κ×aa)->Prop:=Paired λ(p:κ×V) (q:κ×aa)=>p.1=q.1/\RelV p.2 q.2
abbrev kV:Key->V
 | .inl i=>.int i
 | .inr x=>.str x
inductive HO where
 | lst (xs:List V)
 | tup (xs:List V)
 | dK (kvs:List<|Key×V)|dT (kvs:List<|List Key×V)
 | set (S:Int->Bool) (n:Nat)
 | ins (C dx:aj) (fs:List<|Str×V)
 | own (x:aj)
 | xd (fs:List<|Str×V)
 | met (f x:aj)
 | rng (lo hi:Int)
 | frz (o:Obj) (u:HO)
 | tbl (ps:Array aa)
 | ext (φ:ak->Prop)
meta abbrev Hp:=aj->Option HO
abbrev upd (H:Hp)(a:aj)(o:HO):Hp:=λb=>if b=a then some o else H b
def iF{H:Hp}{a:aj}:upd H a o a=some o:=by unfold upd;rw[aX rfl]
def gA{H:Hp}{a:aj}(h:b≠a):upd H a o b=H b:=by unfold upd;rw[aZ h]
def KQ{H:Hp}{a:aj}(h:H a=some o)(h':H b=some u)(d:o≠u):a≠b:=by
 intro e;subst e;rw[h]at h';exact d<|aR h'
def gH{H:Hp}{a:aj}(h:H a=some o)(h':H b=none):a≠b:=by
 intro e;subst e;rw[h]at h';cases h'
abbrev l8 (h:ak)(a:aj)(items:Array aa):Prop:=∃o,h.get? a=some o/\o.cls=.type "tuple" /\ o.dict=none/\∃n,o.data=.seq items n
def l8.tup{a:aj}:l8 h a items->IsTup h a items:=λ⟨o,e,c,_,n,d⟩=>⟨o,e,c,n,d⟩
def l8.new(h:ak)(items:Array aa):l8 (h.push { cls:=.type "tuple",data:=.seq items }) h.objs.size items:=⟨_,bR _ rfl,rfl,rfl,_,rfl⟩
def l8.lt{h:ak}{a:aj}(x:l8 h a items):a<h.objs.size:=let⟨_,ho,_⟩:=x;aV ho
section
variable (P:ah) (w:af)
abbrev iJ (H:Hp)(h:ak)(a:aj):HO->Prop
 | .lst xs=>xs.length<=sizeLine/\∃(d:ar) (n:Nat),Vals xs d/\h.get? a=some { cls:=.type "list",data:=.seq d.toArray n }
 | .tup xs=>xs.length<=sizeLine/\∃d:ar,Vals xs d/\l8 h a d.toArray
 | .dK kvs=>kvs.length<=sizeLine/\(a == sysModules)=false/\∃k,KV kvs k/\h.DictOf (iW P w) a k
 | .dT kvs=>kvs.length<=sizeLine/\(a == sysModules)=false/\∃xs:List<|List Key×aj×aa,
   Paired (λ(p:List Key×V) (q:List Key×aj×aa)=>p.1=q.1/\H q.2.1=some (.tup<|p.1.map kV)/\RelV p.2 q.2.2) kvs xs /\
   ∃o es B,h.get? a=some o/\o.ExactDict/\o.data=.dict es B/\es.toList=xs.map (entryOfKey<|tupleKind<|iW P w)/\(xs.map (·.1)).Nodup
 | .set S n=>h.SetOf (intKind P w) a S n
 | .ins C dx fs=>H dx=some (.own a)/\fs.length<=1000/\dx≠a/\h.get? a=some (PySem.W.instObj C dx) /\
   ∃g,h.Ns1 dx g/\(∀f,sD (fs.lookup f)<|g f)/\PySem.Within g (fs.map (·.1))
 | .own _=>∃o,h.get? a=some o
 | .xd fs=>∃g,h.Ns1 a g/\∀f,sD (fs.lookup f) (g f)
 | .rng z m=>∃t u v,h.get? a=some { cls:=.type "range",data:=.fields #[.int z t,.int m u,.int 1 v]}
 | .frz o u=>h.get? a=some o/\iJ H h a u
 | .tbl ps=>h.get? a=some { cls:=.none,data:=.fields ps }
 | .met f x=>h.get? a=some (PySem.W.methodObj (.ref f)<|.ref x)
 | .ext j=>j h/\(∃o,h.get? a=some o)/\∀h1 h2:ak,j h1->(∀o,h1.get? a=some o->h2.get? a=some o)->j h2
abbrev pN (H:Hp)(h:ak):Prop:=∀a o,H a=some o->iJ P w H h a o
end
section
variable {P:ah}{w:af}{H H':Hp}{h h':ak}{a:aj}{o:HO}
def iJ.lt(x:iJ P w H h a o):a<h.objs.size:=by
 cases o with
 | lst xs=>obtain⟨_,_,_,_,e⟩:=x;exact aV e
 | tup xs=>obtain⟨_,_,_,p⟩:=x;exact l8.lt p
 | dK kvs=>obtain⟨_,_,_,_,o,_,_,e,_⟩:=x;exact aV e
 | dT kvs=>obtain⟨_,_,_,_,o,_,_,e,_⟩:=x;exact aV e
 | set S n=>obtain⟨o,_,_,_,e,_⟩:=x;exact aV e
 | ins C dx fs=>obtain⟨_,_,_,e,_⟩:=x;exact aV e
 | own y=>obtain⟨_,e⟩:=x;exact aV e
 | xd fs=>obtain⟨_,⟨_,_,_,e,_⟩,_⟩:=x;exact aV e
 | rng g d=>obtain⟨_,_,_,e⟩:=x;exact aV e
 | frz ob u=>obtain⟨e,_⟩:=x;exact aV e
 | tbl ps=>exact aV (show h.get? a=some _ from x)
 | met f y=>exact aV (show h.get? a=some _ from x)
 | ext j=>obtain⟨_,⟨_,e⟩,_⟩:=x;exact aV e
theorem Paired.JD{α β:Type}{F G:α->β->Prop}:∀{l₁:List α}{l₂:List β},Paired F l₁ l₂->(∀a b,F a b->G a b)->Paired G l₁ l₂
 | _,_,.nil,_=>.nil
 | _,_,.cons r t,f=>.cons (f _ _ r)<|Paired.JD t f
def iJ.stay(x:iJ P w H h a o)(k:∀b u,(b=a\/H b=some (.own a))->h.get? b=some u->h'.get? b=some u)
  (ho:∀b,H b=some (.own a)->H' b=some (.own a)) (ht:∀b xs,H b=some (.tup xs)->H' b=some (.tup xs)):iJ P w H' h' a o:=by
 induction o with
 | lst xs=>obtain⟨z,j,n,r,e⟩:=x;exact⟨z,j,n,r,k _ _ (.inl rfl) e⟩
 | tup xs=>obtain⟨z,j,r,ob,e,c⟩:=x;exact⟨z,j,r,ob,k _ _ (.inl rfl) e,c⟩
 | dK kvs=>obtain⟨z,y,G,r,ob,es,g,e,c⟩:=x;exact⟨z,y,G,r,ob,es,g,k _ _ (.inl rfl) e,c⟩
 | dT kvs=>
  obtain⟨z,y,xs,r,ob,es,g,e,c⟩:=x;exact⟨z,y,xs,Paired.JD r λp q z=>⟨z.1,ht _ _ z.2.1,z.2.2⟩,ob,es,g,k _ _ (.inl rfl) e,c⟩
 | set S n=>obtain⟨ob,es,g,t,e,c⟩:=x;exact⟨ob,es,g,t,k _ _ (.inl rfl) e,c⟩
 | ins C dx fs=>
  obtain⟨d,z,J,e,m,⟨B,es,g,e2,c⟩,r⟩:=x;exact⟨ho _ d,z,J,k _ _ (.inl rfl) e,m,⟨B,es,g,k _ _ (.inr d) e2,c⟩,r⟩
 | own y=>obtain⟨ob,e⟩:=x;exact⟨ob,k _ _ (.inl rfl) e⟩
 | xd fs=>obtain⟨m,⟨B,es,g,e,c⟩,r⟩:=x;exact⟨m,⟨B,es,g,k _ _ (.inl rfl) e,c⟩,r⟩
 | rng L K=>obtain⟨t,u,v,e⟩:=x;exact⟨t,u,v,k _ _ (.inl rfl) e⟩
 | frz ob u F=>obtain⟨e,q⟩:=x;exact⟨k _ _ (.inl rfl) e,F q⟩
 | tbl ps=>
  have e:h.get? a=some { cls:=.none,data:=.fields ps }:=x
  skip
  exact k a _ (.inl rfl) e
 | met f y=>
  have e:h.get? a=some (PySem.W.methodObj (.ref f)<|.ref y):=x
  skip
  exact k a _ (.inl rfl) e
 | ext M=>obtain⟨p,⟨o,e⟩,st⟩:=x;exact⟨st _ _ p λo q=>k _ _ (.inl rfl) q,⟨o,k _ _ (.inl rfl) e⟩,st⟩
def pN.lt(x:pN P w H h)(e:H a=some o):a<h.objs.size:=(x a o e).lt
def pN.fresh(x:pN P w H h)(e:h.objs.size<=a):H a=none:=by
 cases q:H a with
 | none=>rfl
 | some u=>exact absurd (bG (x.lt q) e)<|dX _
def pN.kept(x:pN P w H h)(k:∀b u,h.get? b=some u->h'.get? b=some u):pN P w H h':=λa o e=>
 (x a o e).stay (λb u _ q=>k b u q) (λ_ q=>q) λ_ _ q=>q
def pN.laid(x:pN P w H h)(k:∀b u,h.get? b=some u->h'.get? b=some u)(hp:h.objs.size<=a)(new:iJ P w (upd H a o) h' a o):pN P w (upd H a o) h':=λb u e=>by
 have hn:=x.fresh hp;by_cases hb:b=a
 ·subst hb;rw[iF]at e;cases e;exact new
 ·rw[gA hb]at e;exact(x b u e).stay (λc v _ q=>k c v q) (λc q=>by rw[gA<|gH q hn];exact q) λc xs q=>by rw[gA<|gH q hn];exact q
end
abbrev Rd (H:Hp)(a:aj)(u:HO):Prop:=H a=some u\/∃o,H a=some (.frz o u)
def Rd.ok{P:ah}{w:af}{H:Hp}{a:aj}(r:Rd H a u)(x:pN P w H h):iJ P w H h a u:=by
 rcases r with r|⟨o,r⟩
 ·exact x a u r
 ·obtain⟨_,q⟩:=x a _ r;exact q
abbrev Lc:Option HO->Prop
 | some (.lst _)=>True
 | some (.dK _)=>True
 | some (.dT _)=>True
 | some (.set _ _)=>True
 | some (.ins _ _ _)=>True
 | some (.ext _)=>True
 | _=>False
section
variable {P:ah}{w:af}{H:Hp}{h h':ak}{x e:aj}{o':HO}
def pN.write(ok:pN P w H h)(mu:Lc<|H x)(he:e=x\/H e=some (.own x))(k:∀b u,b≠e->h.get? b=some u->h'.get? b=some u)(heo:∃u,h'.get? e=some u)
  (new:iJ P w (upd H x o') h' x o'):pN P w (upd H x o') h':=λb u q=>by
 have f:∀c y,H c=some (.own y)->c≠x:=λc y r z=>by subst z;rw[r]at mu;exact mu
 have g:∀c xs,H c=some (.tup xs)->c≠x:=λc xs r z=>by subst z;rw[r]at mu;exact mu
 by_cases hb:b=x
 ·subst hb;rw[iF]at q;cases q;exact new
 ·rw[gA hb]at q;by_cases d:b=e
  ·have j:H b=some (.own x):=by
    rcases he with z|z
    ·exact absurd (d.trans z) hb
    ·rw[d];exact z
   rw[q]at j;cases j;obtain⟨v,hv⟩:=heo;exact⟨v,by rw[d];exact hv⟩
  ·refine(ok b u q).stay (λc v hc r=>k c v ?_ r) (λc r=>by rw[gA<|f c b r];exact r) λc xs r=>by rw[gA<|g c xs r];exact r
   rcases hc with rfl|hc
   ·exact d
   ·rintro rfl
    rcases he with z|z
    ·exact f c b hc z
    ·rw[hc]at z;cases z;exact hb rfl
end
structure Un (fs ex:ba)(H H':Hp)(h h':ak):Prop where
 keep:∀b o,h.get? b=some o->H b=none->b∉fs->b∉ex->h'.get? b=some o
 slot:∀b o,h.get? b=some o->H b=none->b∈fs->b∉ex->∃sl,h'.get? b=some { o with slots:=sl }
 free:∀b o,h.get? b=some o->H b=none->b∉ex->H' b=none
 there:∀b o,h.get? b=some o->b∉ex->∃o',h'.get? b=some o'
 tups:∀b xs,H b=some (.tup xs)->H' b=some (.tup xs)
 frzs:∀b o u,H b=some (.frz o u)->H' b=some (.frz o u)
 tbls:∀b ps,H b=some (.tbl ps)->∃more,H' b=some (.tbl<|ps++more)
section
variable {fs ex:ba}{H H1:Hp}{h h1 h':ak}{a x e:aj}{o:HO}
def Un.any(u:Un fs ex H H1 h h1){ob:Obj}(q:h.get? b=some ob)(n:H b=none)(hx:b∉ex):∃sl,h1.get? b=some { ob with slots:=sl }:=by
 by_cases hb:b∈fs
 ·exact u.slot b ob q n hb hx
 ·exact⟨ob.slots,u.keep b ob q n hb hx⟩
def Un.kept(k:∀b u,h.get? b=some u->h'.get? b=some u):Un fs ex H H h h':=
 ⟨λb ob q _ _ _=>k b ob q,λb ob q _ _ _=>⟨ob.slots,k b ob q⟩,λ_ _ _ n _=>n,λb ob q _=>⟨ob,k b ob q⟩,λ_ _ q=>q,λ_ _ _ q=>q,λ_ ps q=>⟨#[],by rw[q];simp⟩⟩
def Un.refl:Un fs ex H H h h:=Un.kept λ_ _ q=>q
def Un.laid(k:∀b u,h.get? b=some u->h'.get? b=some u)(hp:h.objs.size<=a)(hn:H a=none):Un fs ex H (upd H a o) h h' where
 keep:=λb u q _ _ _=>k b u q
 slot:=λb u q _ _ _=>⟨u.slots,k b u q⟩
 free:=λb u q n _=>by rw[gA<|bu<|bG (aV q) hp];exact n
 there:=λb u q _=>⟨u,k b u q⟩
 tups:=λb xs q=>by rw[gA<|gH q hn];exact q
 frzs:=λb u xs q=>by rw[gA<|gH q hn];exact q
 tbls:=λb ps q=>⟨#[],by rw[gA<|gH q hn,q];simp⟩
def Un.write(mu:Lc<|H x)(he:e=x\/H e=some (.own x))(k:∀b u,b≠e->h.get? b=some u->h'.get? b=some u)(heo:∃u,h'.get? e=some u):Un fs ex H (upd H x o) h h':=by
 have hx:∀b,H b=none->b≠x:=λb n z=>by subst z;rw[n]at mu;exact mu
 have hb:∀b,H b=none->b≠e:=λb n z=>by
  subst z
  rcases he with r|r
  ·exact hx b n r
  ·rw[n]at r;cases r
 have hm:∀b u,H b=some u->¬Lc (some u)->b≠x:=λb u q f z=>by subst z;rw[q]at mu;exact f mu
 refine⟨λb u q n _ _=>k b u (hb b n) q,λb u q n _ _=>⟨u.slots,k b u (hb b n) q⟩,λb u q n _=>by rw[gA<|hx b n];exact n,λb u q _=>?_,
  λb xs q=>by rw[gA<|hm b _ q λz=>z];exact q,λb u xs q=>by rw[gA<|hm b _ q λz=>z];exact q,λb ps q=>⟨#[],by rw[gA<|hm b _ q λz=>z,q];simp⟩⟩
 by_cases d:b=e
 ·subst d;exact heo
 ·exact⟨u,k b u d q⟩
end
abbrev L8 (h:ak)(H:Hp):ba:=(List.range h.objs.size).filter λa=>(H a).isSome
abbrev vc (h:ak)(H:Hp):ak:=PySem.W.hideAll h<|L8 h H
def BW(h:ak)(H:Hp):(vc h H).objs.size=h.objs.size:=PySem.W.hideAll_size _ _
def C3{h:ak}{H:Hp}(e:h.get? b=some o)(n:H b=none):(vc h H).get? b=some o:=
 PySem.W.hideAll_get _ e λhm=>by
  have q:(H b).isSome=true:=(List.mem_filter.mp hm).2;rw[n]at q;simp at q
def Gm{h:ak}{H:Hp}(e:(vc h H).get? b=some o):h.get? b=some o/\H b=none:=by
 have d:h.get? b=some o:=PySem.W.of_hideAll (L8 h H) e;refine⟨d,?_⟩
 cases q:H b with
 | none=>rfl
 | some x=>
  have hm:b∈L8 h H:=List.mem_filter.mpr ⟨fF.mpr<|aV d,by simp[q]⟩;have z:(vc h H).get? b=none:=PySem.W.hideAll_none (L8 h H) hm;rw[z]at e;cases e
abbrev Gz (g h:ak)(L:aj):bn:=(List.range h.objs.size).filterMap λa=>if a=L\/(g.get? a).isSome=true then none else(h.get? a).map λo=>(a,o)
abbrev rest (g h:ak)(L d:aj):bn:=(Gz g h L).filter λp=>decide<|p.1≠d
structure Mod (K:aq)(mg:Str->be)(base:ak):Prop where
 kin:K.In base
 glob:base.Ns mainGlobals mg
 blt:∃mb,base.Ns builtinsNs mb/\∀x:Str,x ≠ "__name__" -> mb x=bootBuiltins x
 nolimit:base.NoLimit
structure Cx where
 prog:ah
 w:af
 K:aq
 mg:Str->be
 base:ak
 A:au
 N:ap
 s₀:aA
 H₀:Hp
 env:Env
 outer:List Env
 stack:List Env
 ex:ba
 fn:Str->Bool
 calm:Bool
 pn:bn
 xe:aa->aA->Prop
abbrev frs (l:List Env):ba:=l.filterMap (·.frame)
meta abbrev Cx.fs (X:Cx):ba:=frs X.outer
abbrev Lu (sc:Scope)(x:Str):Prop:=sc.names.lookup x=some .local\/sc.names.lookup x=some .cell\/sc.names.lookup x=some .free
abbrev Loc (sc:Scope)(x:Str):Prop:=sc.names.lookup x=some .local\/sc.names.lookup x=some .cell
abbrev Look (env:Env)(h:ak)(m:Str->be)(x:Str)(u:aa):Prop:=
 (env.kindOf x=some .local/\m x=some u)\/((env.kindOf x=some .cell\/env.kindOf x=some .free)/\∃c,env.cells.lookup x=some c/\h.IsCell c (some u))
structure Cx.Ok (X:Cx):Prop where
 mod:Mod X.K X.mg X.base
 kind:X.env.scope.kind=.function
 glob:X.env.globals=mainGlobals
 blt:X.env.builtins=builtinsNs
 above:X.s₀.heap.objs.size<=X.env.locals
 inj:∀x y c,X.env.cells.lookup x=some c->X.env.cells.lookup y=some c->x=y
 has:∀x,(X.env.kindOf x=some .cell\/X.env.kindOf x=some .free)->∃c,X.env.cells.lookup x=some c
 cab:∀x c,X.fn x=true->X.env.cells.lookup x=some c->X.s₀.heap.objs.size<=c
 hd:X.calm=true->X.A.handled=none
 frames:X.A.frames=some X.stack
 stk:X.stack=X.outer\/(X.stack=X.env::X.outer/\X.env.frame=some X.env.locals)
 exf:∀b∈X.ex,b≠X.env.locals/\∀x c,X.env.cells.lookup x=some c->c≠b
 bs:∀b o,X.base.get? b=some o->X.s₀.heap.get? b=some o/\X.H₀ b=none
 bsz:X.base.objs.size<=X.s₀.heap.objs.size
 noex:∀b o,X.base.get? b=some o->b∉X.ex
 exfs:∀b∈X.ex,b∉X.fs
 sM:X.s₀.heap.FunFrames X.base X.outer
 frf:∀b∈X.fs,X.H₀ b=none
structure Inv (X:Cx)(pins:bn)(σ:List (Option V))(H:Hp)(s:aA):Prop where
 ok:X.Ok
 os:s.os=X.s₀.os
 bare:AllBare s.gens
 base:Un X.fs X.ex X.H₀ H X.s₀.heap s.heap
 loc:∃m,s.heap.Ns X.env.locals m/\∀(i:Nat) (x:Str) (v:V),X.N[i]?=some x->σ[i]?=some (some v)->Lu X.env.scope x->∃u,RelV v u/\Look X.env s.heap m x u
 cell:∀x c,X.env.cells.lookup x=some c->∃v,s.heap.IsCell c v
 free:H X.env.locals=none
 freeC:∀x c,X.env.cells.lookup x=some c->H c=none
 pin:∀p∈X.pn++pins,s.heap.get? p.1=some p.2/\H p.1=none/\p.1≠X.env.locals/\p.1∉X.fs/\∀v,p.2.data≠.cell v
 hok:pN X.prog X.w H s.heap
 len:σ.length=X.N.length
section
variable {X:Cx}{pins:bn}{σ:List (Option V)}{H H':Hp}{s:aA}{h':ak}
def Cx.Ok.MB(ok:X.Ok)(e:X.base.get? b=some o):b∉X.fs:=λhb=>by
 have:=(ok.sM.mem hb).1;rw[e]at this;cases this
def Inv.bs(I:Inv X pins σ H s):∀b o,X.base.get? b=some o->s.heap.get? b=some o/\H b=none:=λb o e=>
 ⟨I.base.keep b o (I.ok.bs b o e).1 (I.ok.bs b o e).2 (I.ok.MB e)<|I.ok.noex b o e,I.base.free b o (I.ok.bs b o e).1 (I.ok.bs b o e).2<|I.ok.noex b o e⟩
def Inv.bk(I:Inv X pins σ H s):∀b o,X.base.get? b=some o->s.heap.get? b=some o:=λb o e=>(I.bs b o e).1
def Inv.mod(I:Inv X pins σ H s):Mod X.K X.mg X.base:=I.ok.mod
def Inv.vI(I:Inv X pins σ H s):X.K.In s.heap:=I.ok.mod.kin.keeps I.bk
def Inv.lt(I:Inv X pins σ H s):X.env.locals<s.heap.objs.size:=let⟨_,hn,_⟩:=I.loc;hn.lt
def Inv.sz(I:Inv X pins σ H s):X.s₀.heap.objs.size<=s.heap.objs.size:=b6 I.ok.above<|cE I.lt
def Inv.My(I:Inv X pins σ H s){a:aj}(h:s.heap.objs.size<=a):a∉X.fs:=λhb=>by
 obtain⟨_,o,d,_⟩:=I.ok.sM.mem hb;exact absurd (bG (aV d)<|b6 I.sz h)<|dX _
def Inv.IA(I:Inv X pins σ H s):∀x c,X.env.cells.lookup x=some c->c≠X.env.locals:=λx c e z=>by
 obtain⟨v,o,g,hd⟩:=I.cell x c e;obtain⟨m,⟨o',es,j,d,f,_⟩,_⟩:=I.loc;rw[z,d]at g;cases g;rw[f]at hd;cases hd
def Inv.sM(I:Inv X pins σ H s):s.heap.FunFrames X.base X.outer:=by
 have all:∀(l:List Env),(∀b∈frs l,b∈X.fs)->X.s₀.heap.FunFrames X.base l->s.heap.FunFrames X.base l:=by
  intro l
  induction l with
  | nil=>intro _ _;trivial
  | cons env r f=>
   intro hs g;obtain⟨j,⟨L,o,hf,hn,m,hd⟩,k⟩:=g;have d:L∈X.fs:=hs L (by unfold frs;rw[fy,hf];exact aY);obtain⟨t,e⟩:=I.base.slot L o m (I.ok.frf L d) d λz=>I.ok.exfs L z d;exact⟨j,⟨L,_,hf,hn,e,hd⟩,f (λb hb=>hs b<|by unfold frs;rw[fy,hf];exact aK _ hb) k⟩
 exact all X.outer (λ_ hb=>hb) I.ok.sM
def Inv.stack(I:Inv X pins σ H s):s.heap.FunFrames X.base X.stack:=by
 rcases I.ok.stk with e|⟨e,hf⟩
 ·rw[e];exact I.sM
 ·rw[e];obtain⟨m,hn,_⟩:=I.loc;refine .cons (by rw[I.ok.kind];decide) hf hn ?_ I.sM;exact Heap.get?_none_of_le<|b6 I.ok.bsz I.ok.above
def Inv.yo(I:Inv X pins σ H s):∀b∈frs X.stack,b∈X.env.locals::X.fs:=λb hb=>by
 rcases I.ok.stk with e|⟨e,hf⟩
 ·rw[e]at hb;exact aK _ hb
 ·rw[e]at hb;unfold frs at hb;rw[fy,hf]at hb;exact hb
def Inv.z8(I:Inv X pins σ H s):∀b∈frs X.stack,H b=none:=λb hb=>by
 rcases br.mp (I.yo b hb)with e|hb
 ·rw[e];exact I.free
 ·obtain⟨_,o,d,_⟩:=I.ok.sM.mem hb;exact I.base.free b o d (I.ok.frf b hb) λz=>I.ok.exfs b z hb
def Inv.step{g':Array GenState}{t':Nat}{d':Drawn}{ch:ba}(I:Inv X pins σ H s)
  (hch:∀b∈ch,(b∈X.ex\/X.s₀.heap.objs.size<=b)/\b≠X.env.locals/\(∀x c,X.env.cells.lookup x=some c->c≠b)/\∀p∈X.pn++pins,p.1≠b)
  (keep:∀b o,b≠X.env.locals->b∉X.fs->b∉ch->s.heap.get? b=some o->H b=none->h'.get? b=some o)
  (slot:∀b o,b≠X.env.locals->b∈X.fs->b∉ch->s.heap.get? b=some o->H b=none->∃sl,h'.get? b=some { o with slots:=sl }) (free:∀b o,b∉ch->s.heap.get? b=some o->H b=none->H' b=none)
  (there:∀b o,b∉ch->s.heap.get? b=some o->∃o',h'.get? b=some o')
  (tups:∀b xs,H b=some (.tup xs)->H' b=some (.tup xs)) (frzs:∀b o u,H b=some (.frz o u)->H' b=some (.frz o u)) (tbls:∀b ps,H b=some (.tbl ps)->∃more,H' b=some (.tbl<|ps++more))
  (ns:∀m,s.heap.Ns X.env.locals m->h'.Ns X.env.locals m) (hok:pN X.prog X.w H' h') (hg:AllBare g') :
  Inv X pins σ H' { s with heap:=h',gens:=g',drawn:=d',toks:=t' }:=by
 have B:∀b o,X.s₀.heap.get? b=some o->b≠X.env.locals:=λb o e=>bu<|bG (aV e) I.ok.above;have j:∀b o,X.s₀.heap.get? b=some o->b∉X.ex->b∉ch:=λb o e hx hb=>by
  rcases(hch b hb).1 with z|z
  ·exact hx z
  ·exact absurd (bG (aV e) z)<|dX _
 have g:∀x c,X.env.cells.lookup x=some c->∀v,s.heap.IsCell c v->h'.IsCell c v:=λx c e v ⟨o,t,hd⟩=>by
  have f:c∉ch:=λz=>(hch c z).2.2.1 x c e rfl;by_cases hc:c∈X.fs
  ·obtain⟨sl,q⟩:=slot c o (I.IA x c e) hc f t<|I.freeC x c e;exact⟨_,q,hd⟩
  ·exact⟨o,keep c o (I.IA x c e) hc f t<|I.freeC x c e,hd⟩
 refine⟨I.ok,I.os,hg,⟨λb o e n hb hx=>?_,λb o e n hb hx=>?_,λb o e n hx=>?_,λb o e hx=>?_,λb xs e=>tups b xs<|I.base.tups b xs e,λb o xs e=>frzs b o xs<|I.base.frzs b o xs e,λb ps e=>?_⟩,?_,λx c e=>?_,?_,λx c e=>?_,λp hp=>?_,hok,I.len⟩
 ·exact keep b o (B b o e) hb (j b o e hx) (I.base.keep b o e n hb hx) (I.base.free b o e n hx)
 ·obtain⟨sl,e1⟩:=I.base.slot b o e n hb hx;obtain⟨C,e2⟩:=slot b _ (B b o e) hb (j b o e hx) e1<|I.base.free b o e n hx;exact⟨C,e2⟩
 ·obtain⟨o',e1⟩:=I.base.there b o e hx;exact free b o' (j b o e hx) e1 (I.base.free b o e n hx)
 ·obtain⟨o',e1⟩:=I.base.there b o e hx;exact there b o' (j b o e hx) e1
 ·obtain⟨L,e1⟩:=I.base.tbls b ps e;obtain⟨M,e2⟩:=tbls b _ e1;exact⟨L++M,by rw[e2,Array.append_assoc]⟩
 ·obtain⟨m,hn,K⟩:=I.loc;refine⟨m,ns m hn,λi x v e1 e2 J=>?_⟩;obtain⟨u,r,l⟩:=K i x v e1 e2 J;refine⟨u,r,?_⟩
  rcases l with l|⟨k,c,e,z⟩
  ·exact .inl l
  ·exact .inr ⟨k,c,e,g x c e _ z⟩
 ·obtain⟨v,z⟩:=I.cell x c e;exact⟨v,g x c e v z⟩
 ·obtain⟨m,⟨o,_,_,t,_⟩,_⟩:=I.loc;exact free _ o (λz=>(hch _ z).2.1 rfl) t I.free
 ·obtain⟨v,o,t,hd⟩:=I.cell x c e;exact free c o (λz=>(hch c z).2.2.1 x c e rfl) t (I.freeC x c e)
 ·obtain⟨e,n,G,F,d⟩:=I.pin p hp;have f:p.1∉ch:=λz=>(hch p.1 z).2.2.2 p hp rfl;exact⟨keep p.1 p.2 G F f e n,free p.1 p.2 f e n,G,F,d⟩
def Inv.un{t':Nat}(I:Inv X pins σ H s)(u:Un X.fs [] H H' s.heap h')(hok:pN X.prog X.w H' h'):Inv X pins σ H' { s with heap:=h',toks:=t' }:=by
 obtain⟨m,⟨o,es,z,j,r⟩,_⟩:=id I.loc;obtain⟨B,t⟩:=u.any j I.free (by simp);exact I.step (g':=s.gens) (d':=s.drawn) (ch:=[]) (nofun) (λb o _ hb _ e n=>u.keep b o e n hb<|by simp) (λb o _ hb _ e n=>u.slot b o e n hb<|by simp) (λb o _ e n=>u.free b o e n<|by simp) (λb o _ e=>u.there b o e<|by simp) u.tups u.frzs u.tbls (λm' hm=>by
  obtain⟨o',f,g,d,k⟩:=hm;rw[j]at d;cases d;exact⟨_,f,g,t,k⟩) hok I.bare
def Inv.call{g':Array GenState}{t':Nat}{d':Drawn}{ch:ba}(I:Inv X pins σ H s)(u:Un (frs X.stack) ch H H' s.heap h')(hok:pN X.prog X.w H' h')(hg:AllBare g')
  (hch:∀b∈ch,(b∈X.ex\/X.s₀.heap.objs.size<=b)/\b≠X.env.locals/\(∀x c,X.env.cells.lookup x=some c->c≠b)/\∀p∈X.pn++pins,p.1≠b) :
  Inv X pins σ H' { s with heap:=h',gens:=g',drawn:=d',toks:=t' }:=by
 obtain⟨m,⟨o,es,B,k,r⟩,_⟩:=id I.loc;obtain⟨C,g⟩:=u.any k I.free λz=>(hch _ z).2.1 rfl;exact I.step (ch:=ch) hch (λb o g hb hc e n=>u.keep b o e n (λz=>(br.mp<|I.yo b z).elim g hb) hc) (λb o _ _ hc e n=>u.any e n hc) (λb o hc e n=>u.free b o e n hc) (λb o hc e=>u.there b o e hc) u.tups u.frzs u.tbls (λm' hm=>by
  obtain⟨o',f,j,d,t⟩:=hm;rw[k]at d;cases d;exact⟨_,f,j,g,t⟩) hok hg
def Inv.turned{t':Nat}{it:aj}(I:Inv X pins σ H s)(k:∀b o,b≠it->s.heap.get? b=some o->h'.get? b=some o)(hn:H it=none)(hL:it≠X.env.locals)
  (h1:it∈X.ex\/X.s₀.heap.objs.size<=it) (h2:∀x c,X.env.cells.lookup x=some c->c≠it) (h3:∀p∈X.pn++pins,p.1≠it):Inv X pins σ H { s with heap:=h',toks:=t' }:=by
 have d:∀b u,H b=some u->b≠it:=λb u e z=>by rw[z,hn]at e;cases e
 refine I.step (g':=s.gens) (d':=s.drawn) (ch:=[it]) (λb hb=>?_) (λb o _ _ hc e _=>k b o (λz=>hc<|by simp[z]) e) (λb o _ _ hc e _=>⟨o.slots,k b o (λz=>hc<|by simp[z]) e⟩) (λ_ _ _ _ n=>n)
  (λb o hc e=>⟨o,k b o (λz=>hc<|by simp[z]) e⟩) (λ_ _ e=>e) (λ_ _ _ e=>e) (λb ps e=>⟨#[],by rw[e];simp⟩) (λm hm=>?_) (λb u e=>?_) I.bare
 ·have e:b=it:=by simpa using hb
  subst e;exact⟨h1,hL,h2,h3⟩
 ·obtain⟨o,es,g,f,r⟩:=hm;exact⟨o,es,g,k _ o (cB hL) f,r⟩
 ·refine(I.hok b u e).stay (λc v hc q=>k c v ?_ q) (λ_ q=>q) λ_ _ q=>q
  rcases hc with z|z
  ·rw[z];exact d b u e
  ·exact d c _ z
def Inv.tok(I:Inv X pins σ H s)(t:Nat):Inv X pins σ H { s with toks:=t }:=I.un (h':=s.heap) (t':=t) Un.refl I.hok
def Inv.kept{t':Nat}(I:Inv X pins σ H s)(k:∀b u,s.heap.get? b=some u->h'.get? b=some u):Inv X pins σ H { s with heap:=h',toks:=t' }:=I.un (Un.kept k)<|I.hok.kept k
def Inv.laid{a:aj}{t':Nat}(I:Inv X pins σ H s)(k:∀b u,s.heap.get? b=some u->h'.get? b=some u)(hp:s.heap.objs.size<=a)(new:iJ X.prog X.w (upd H a o) h' a o) :
  Inv X pins σ (upd H a o) { s with heap:=h',toks:=t' }:=I.un (Un.laid k hp<|I.hok.fresh hp)<|I.hok.laid k hp new
def Inv.write{x:aj}{t':Nat}(I:Inv X pins σ H s)(mu:Lc<|H x)(he:e=x\/H e=some (.own x))(k:∀b u,b≠e->s.heap.get? b=some u->h'.get? b=some u)(heo:∃u,h'.get? e=some u)
  (new:iJ X.prog X.w (upd H x o) h' x o):Inv X pins σ (upd H x o) { s with heap:=h',toks:=t' }:=I.un (Un.write mu he k heo)<|I.hok.write mu he k heo new
def Inv.zH{pins':bn}(I:Inv X pins σ H s)(h:∀p∈pins',s.heap.get? p.1=some p.2/\H p.1=none/\p.1≠X.env.locals/\p.1∉X.fs/\∀v,p.2.data≠.cell v):Inv X pins' σ H s:=
 ⟨I.ok,I.os,I.bare,I.base,I.loc,I.cell,I.free,I.freeC,λp hp=>(bC.mp hp).elim (λz=>I.pin p<|dH _ z)<|h p,I.hok,I.len⟩
def wW{N:ap}(hN:N.Nodup){i j:Nat}{x:Str}(a:N[i]?=some x)(b:N[j]?=some x):i=j:=by
 obtain⟨h1,e1⟩:=aI.mp a;obtain⟨h2,e2⟩:=aI.mp b;exact(fU hN).mp (e1.trans e2.symm)
def BZ{A:au}{E:aa->aA->Prop}{i:Nat}{x:Str}{v:V}{Q:Unit->aA->Prop}(I:Inv X pins σ H s)(hN:X.N.Nodup)(hi:X.N[i]?=some x)(hx:Loc X.env.scope x)(r:RelV v u)
  (h:∀s',Inv X pins (σ.set i<|some v) H s'->(∃a,Heap.SameBut a s.heap s'.heap/\(a=X.env.locals\/X.env.cells.lookup x=some a))->Q Unit.unit s') (hf:X.fn x=true\/X.env.scope.names.lookup x=some .local:=by first|exact .inl rfl|exact .inr rfl|assumption):wpAny M A (storeName X.env x u) Q E s:=by
 obtain⟨m,hn,hl⟩:=id I.loc;have K:(X.env.scope.kind == .class || (X.env.scope.kind == .module && X.env.locals != X.env.globals))=false:=by rw[I.ok.kind];rfl
 have g:i<σ.length:=by rw[I.len];exact(aI.mp hi).1
 have IA:=I.IA;have f:∀{a:aj} {h':ak},(∃o,s.heap.get? a=some o/\H a=none)->Heap.SameBut a s.heap h'->pN X.prog X.w H h':=λ{a h'} ha hs b ob e=>by
  obtain⟨_,_,hfree⟩:=ha;refine(I.hok b ob e).stay (λc O hc q=>(hs.2 c ?_).trans q) (λ_ q=>q) λ_ _ q=>q;rintro rfl
  rcases hc with rfl|hc
  ·rw[hfree]at e;cases e
  ·rw[hfree]at hc;cases hc
 rcases hx with t|t
 ·refine wpAny_storeName_local t hn (λh' hn' hs=>?_) K;obtain⟨oL,_,_,hoL,_⟩:=id hn;refine h _ ⟨I.ok,I.os,I.bare,⟨λb o e n hb hx=>?_,λb o e n hb hx=>?_,I.base.free,λb o e hx=>?_,I.base.tups,I.base.frzs,I.base.tbls⟩,⟨_,hn',λj y Z e1 e2 W=>?_⟩,λy c e=>?_,I.free,I.freeC,λp hp=>?_,f ⟨oL,hoL,I.free⟩ hs,by simpa using I.len⟩ ⟨_,hs,.inl rfl⟩
  ·exact(hs.2 b<|bu<|bG (aV e) I.ok.above).trans (I.base.keep b o e n hb hx)
  ·obtain⟨sl,e1⟩:=I.base.slot b o e n hb hx;exact⟨sl,(hs.2 b<|bu<|bG (aV e) I.ok.above).trans e1⟩
  ·obtain⟨o',e1⟩:=I.base.there b o e hx;exact⟨o',(hs.2 b<|bu<|bG (aV e) I.ok.above).trans e1⟩
  ·by_cases B:j=i
   ·subst B;rw[hi]at e1;cases e1;rw[bO g]at e2
    cases e2
    exact⟨u,r,.inl ⟨t,by simp⟩⟩
   ·rw[bM<|cB B]at e2;obtain⟨u',Y,q⟩:=hl j y Z e1 e2 W;refine⟨u',Y,?_⟩
    rcases q with⟨k,e⟩|⟨k,c,e,z⟩
    ·refine .inl ⟨k,?_⟩;have:y≠x:=λe=>B<|wW hN e1<|e ▸ hi;simp[this,e]
    ·exact .inr ⟨k,c,e,z.sameBut hs<|IA y c e⟩
  ·obtain⟨O,z⟩:=I.cell y c e;exact⟨O,z.sameBut hs<|IA y c e⟩
  ·obtain⟨e,n,U,nf,d⟩:=I.pin p hp;exact⟨(hs.2 p.1 U).trans e,n,U,nf,d⟩
 ·have C:X.fn x=true:=by
   rcases hf with z|z
   ·exact z
   ·rw[z]at t;cases t
  obtain⟨c,hc⟩:=I.ok.has x<|.inl t;obtain⟨O,z⟩:=I.cell x c hc;refine wpAny_storeName_cell I.ok.kind t hc z λh' F hs=>?_;obtain⟨oc,G,J⟩:=id z;refine h { s with heap:=h' } ⟨I.ok,I.os,I.bare,⟨λb o e n hb hx=>?_,λb o e n hb hx=>?_,I.base.free,λb o e hx=>?_,I.base.tups,I.base.frzs,I.base.tbls⟩,⟨m,hn.sameBut hs<|cB<|IA x c hc,λj y Z e1 e2 W=>?_⟩,λy P e=>?_,I.free,I.freeC,λp hp=>?_,f ⟨oc,G,I.freeC x c hc⟩ hs,by simpa using I.len⟩ ⟨c,hs,.inr hc⟩
  ·exact(hs.2 b<|bu<|bG (aV e)<|I.ok.cab x c C hc).trans (I.base.keep b o e n hb hx)
  ·obtain⟨sl,e1⟩:=I.base.slot b o e n hb hx;exact⟨sl,(hs.2 b<|bu<|bG (aV e)<|I.ok.cab x c C hc).trans e1⟩
  ·obtain⟨o',e1⟩:=I.base.there b o e hx;exact⟨o',(hs.2 b<|bu<|bG (aV e)<|I.ok.cab x c C hc).trans e1⟩
  ·by_cases B:j=i
   ·subst B;rw[hi]at e1;cases e1;rw[bO g]at e2
    cases e2
    exact⟨u,r,.inr ⟨.inl t,c,hc,F⟩⟩
   ·rw[bM<|cB B]at e2;obtain⟨u',Y,q⟩:=hl j y Z e1 e2 W;refine⟨u',Y,?_⟩
    rcases q with q|⟨k,P,e,z'⟩
    ·exact .inl q
    ·refine .inr ⟨k,P,e,z'.sameBut hs ?_⟩;rintro rfl;exact B<|wW hN e1<|I.ok.inj _ _ _ e hc ▸ hi
  ·by_cases L:P=c
   ·subst L;exact⟨_,F⟩
   ·obtain⟨w2,z2⟩:=I.cell y P e;exact⟨w2,z2.sameBut hs L⟩
  ·obtain⟨e,n,U,nf,d⟩:=I.pin p hp;refine⟨(hs.2 p.1 ?_).trans e,n,U,nf,d⟩;intro q;rw[q,G]at e;have q':oc=p.2:=aR e;exact d O<|by rw[<- q'];exact J
def sQ{A:au}{E:aa->aA->Prop}{i:Nat}{x:Str}{v:V}{Q:Unit->aA->Prop}(I:Inv X pins σ H s)(hN:X.N.Nodup)(hi:X.N[i]?=some x)(hx:Loc X.env.scope x)(r:RelV v u)
  (h:∀s',Inv X pins (σ.set i<|some v) H s'->Q Unit.unit s') (hf:X.fn x=true\/X.env.scope.names.lookup x=some .local:=by first|exact .inl rfl|exact .inr rfl|assumption):wpAny M A (storeName X.env x u) Q E s:=
 BZ I hN hi hx r (λs' d _=>h s' d) hf
def Inv.wj{s':aA}{ch:ba}(I:Inv X pins σ H s)(ho:s'.os=s.os)(u:Un (frs X.stack) ch H H' s.heap s'.heap)(hok:pN X.prog X.w H' s'.heap)(hg:AllBare s'.gens)
  (hch:∀b∈ch,(b∈X.ex\/X.s₀.heap.objs.size<=b)/\b≠X.env.locals/\(∀x c,X.env.cells.lookup x=some c->c≠b)/\∀p∈X.pn++pins,p.1≠b):Inv X pins σ H' s':=by
 obtain⟨h',g',d',t',o'⟩:=s';have e:o'=s.os:=ho;subst e;exact I.call (g':=g') (t':=t') (d':=d') u hok hg hch
end
meta abbrev XK:=aa->Option aj->Hp->Prop
meta abbrev St:=List<|Option V
meta abbrev VK:=V->Hp->Prop
meta abbrev TE:=St->Hp->VK->Prop
meta abbrev TT:=St->Hp->(Bool->Hp->Prop)->Prop
meta abbrev TA:=St->Hp->(List V->Hp->Prop)->Prop
structure Ends where
 nx:St->Hp->Prop
 rt:VK
 bk:St->Hp->Prop:=λ_ _=>False
 ct:St->Hp->Prop:=λ_ _=>False
meta abbrev TS:=Ends->St->Hp->Prop
abbrev EP (X:Cx)(pins:bn)(σ:St)(Q:VK)(u:aa)(s':aA):Prop:=∃v H',Inv X pins σ H' s'/\RelV v u/\Q v H'
abbrev TP (X:Cx)(pins:bn)(σ:St)(Q:Bool->Hp->Prop)(b:Bool)(s':aA):Prop:=∃H',Inv X pins σ H' s'/\Q b H'
abbrev AP (X:Cx)(pins:bn)(σ:St)(Q:List V->Hp->Prop)(us:ar)(s':aA):Prop:=∃d H',Inv X pins σ H' s'/\Vals d us/\Q d H'
abbrev SP (X:Cx)(pins:bn)(D:Ends)(f:Flow)(s':aA):Prop:=
 match f with
 | .next=>∃d H',Inv X pins d H' s'/\D.nx d H'
 | .brk=>∃d H',Inv X pins d H' s'/\D.bk d H'
 | .cont=>∃d H',Inv X pins d H' s'/\D.ct d H'
 | .ret u=>∃v d H',Inv X pins d H' s'/\RelV v u/\D.rt v H'
abbrev PE (X:Cx)(e:aC)(t:TE):Prop:=
 ∀(pins:bn) (s:aA) (σ:St) (H:Hp) (Q:VK),Inv X pins σ H s->t σ H Q->wpAny (model X.prog X.w) X.A (eval e X.env) (EP X pins σ Q) X.xe s
abbrev PT (X:Cx)(e:aC)(t:TT):Prop:=
 ∀(pins:bn) (s:aA) (σ:St) (H:Hp) (Q:Bool->Hp->Prop),Inv X pins σ H s->t σ H Q->wpAny (model X.prog X.w) X.A (isTrue e X.env<|eval e X.env) (TP X pins σ Q) X.xe s
abbrev PW (X:Cx)(e:aC)(t:TT):Prop:=
 ∀(d:Sem aa) (pins:bn) (s:aA) (σ:St) (H:Hp) (Q:Bool->Hp->Prop),Inv X pins σ H s->t σ H Q->wpAny (model X.prog X.w) X.A (isTrue e X.env d) (TP X pins σ Q) X.xe s
abbrev PA (X:Cx)(es:List aC)(t:TA):Prop:=
 ∀(pos:Pos) (pins:bn) (s:aA) (σ:St) (H:Hp) (Q:List V->Hp->Prop),Inv X pins σ H s->t σ H Q->wpAny (model X.prog X.w) X.A (spliced<|backTo pos<|starEach es X.env) (AP X pins σ Q) X.xe s
abbrev PS (X:Cx)(st:aE)(t:TS):Prop:=
 ∀(pins:bn) (s:aA) (σ:St) (H:Hp) (D:Ends),Inv X pins σ H s->t D σ H->wpAny (model X.prog X.w) X.A (exec st X.env) (SP X pins D) X.xe s
abbrev ve (X:Cx)(st:List aE)(t:TS):Prop:=
 ∀(pins:bn) (s:aA) (σ:St) (H:Hp) (D:Ends),Inv X pins σ H s->t D σ H->wpAny (model X.prog X.w) X.A (execs st X.env) (SP X pins D) X.xe s
def iN{α:Type}{t:Sem α}{Q Q':α->aA->Prop}{A:au}{E:aa->aA->Prop}(h:wpAny M A t Q E s)(hQ:∀a s,Q a s->Q' a s):wpAny M A t Q' E s:=cS h hQ λ_ _ x=>x
section
variable {X:Cx}
abbrev M4 (i:Nat):TE:=λσ H Q=>∃v,σ[i]?=some (some v)/\Q v H
abbrev tC (v:V):TE:=λ_ H Q=>Q v H
def Ji{i:Nat}{x:Str}(hN:X.N[i]?=some x)(hv:Lu X.env.scope x)(hd:(x == ("__debug__" : Str))=false:=by decide)(hcd:(x == ("__classdict__" : Str))=false:=by decide):PE X (.Name x pos) (M4 i):=by
 fin2;obtain⟨v,e,h⟩:=h;obtain⟨m,hn,j⟩:=I.loc;obtain⟨u,r,l⟩:=j i x v hN e hv;have g:EP X pins σ Q u s:=⟨v,H,I,r,h⟩
 rcases l with⟨f,hm⟩|⟨f,c,hc,d⟩
 ·exact wpAny_Name (wpAny_loadName_local I.ok.kind f hn hm g) hd
 ·rcases f with f|f
  ·exact wpAny_Name (wpAny_loadName_cell I.ok.kind f hc d g) hd
  ·exact wpAny_Name (wpAny_loadName_free I.ok.kind f hc d g hcd) hd
def yi{i j pos}:PE X (.Constant (.int i) j pos) (tC<|.int i):=λ_ _ _ H _ I h=>wpAny_Constant_int ⟨.int i,H,I.tok _,⟨_,rfl⟩,h⟩
def Lj{b j pos}:PE X (.Constant (.bool b) j pos) (tC<|.bl b):=λ_ _ _ H _ I h=>Constant_bool ⟨.bl b,H,I,rfl,h⟩
def J4{j pos}:PE X (.Constant .none j pos) (tC .non):=λ_ _ _ H _ I h=>Constant_none ⟨.non,H,I,rfl,h⟩
abbrev Gl (X:Cx)(x:Str):Prop:=X.env.kindOf x=some .globalImplicit
def Ag{E:aa->aA->Prop}{H:Hp}{x:Str}{Q:aa->aA->Prop}(I:Inv X pins σ H s)(hg:Gl X x)(hm:X.mg x=some u)(h:Q u s)
  (hd:(x == ("__debug__" : Str))=false:=by decide):wpAny (model X.prog X.w) X.A (eval (.Name x pos) X.env) Q E s:=
 Calls.Name_function_global I.ok.kind hg (Calls.loadGlobal_global (by rw[I.ok.glob];exact I.mod.glob.keeps I.bk) hm h) hd
def oh{E:aa->aA->Prop}{H:Hp}{x:Str}{Q:aa->aA->Prop}(I:Inv X pins σ H s)(hg:Gl X x)(hm:X.mg x=none)(hv:bootBuiltins x=some u)(h:Q u s)
  (hn:x ≠ "__name__" := by decide) (hd:(x == ("__debug__" : Str))=false:=by decide):wpAny (model X.prog X.w) X.A (eval (.Name x pos) X.env) Q E s:=by
 obtain⟨d,h1,h2⟩:=I.mod.blt;exact Calls.Name_function_global I.ok.kind hg (Calls.loadGlobal_builtin (by rw[I.ok.glob];exact I.mod.glob.keeps I.bk) hm (by rw[I.ok.blt];exact h1.keeps I.bk) ((h2 x hn).trans hv) h) hd
def F1{x:Str}{v:V}(hg:Gl X x)(hm:X.mg x=some u)(r:RelV v u)(hd:(x == ("__debug__" : Str))=false:=by decide):PE X (.Name x pos) (tC v):=
 λ_ _ _ H _ I h=>Ag I hg hm ⟨v,H,I,r,h⟩ hd
def F_{x:Str}{v:V}(hg:Gl X x)(hm:X.mg x=none)(hv:bootBuiltins x=some u)(r:RelV v u)(hn:x ≠ "__name__" := by decide)(hd:(x == ("__debug__" : Str))=false:=by decide):PE X (.Name x pos) (tC v):=
 λ_ _ _ H _ I h=>oh I hg hm hv ⟨v,H,I,r,h⟩ hn hd
variable {a b:aC}{ta tb:TE}{pos:Pos}
variable {tA tB':TT}{rest:List aC}
abbrev LN (t u:TT):TT:=λσ H Q=>t σ H λc H1=>if c=true then u σ H1 Q else Q false H1
abbrev NX (t u:TT):TT:=λσ H Q=>t σ H λc H1=>if c=true then Q true H1 else u σ H1 Q
abbrev Ml (t:TT):TT:=λσ H Q=>t σ H λc H1=>Q (!c) H1
def GW(ha:PT X a tA):PW X (.BoolOp .And [a] pos) tA:=by
 intro wh pins s σ H Q I h;refine isTrue_and (iN (ha pins s σ H Q I h) λc d e=>?_)
 cases c with
 | true=>exact isTrue_and_nil e
 | false=>exact e
def IJ(ha:PT X a tA):PW X (.BoolOp .Or [a] pos) tA:=by
 intro wh pins s σ H Q I h;refine isTrue_or (iN (ha pins s σ H Q I h) λc d e=>?_)
 cases c with
 | false=>exact isTrue_or_nil e
 | true=>exact e
def IS(ha:PT X a tA)(hb:PW X (.BoolOp .And (b::rest) pos) tB'):PW X (.BoolOp .And (a::b::rest) pos) (LN tA tB'):=by
 intro wh pins s σ H Q I h;refine isTrue_and (iN (ha pins s σ H _ I h) λc f ⟨H1,I1,d⟩=>?_)
 cases c with
 | true=>exact hb wh pins f σ H1 Q I1 d
 | false=>exact⟨H1,I1,d⟩
def LO(ha:PT X a tA)(hb:PW X (.BoolOp .Or (b::rest) pos) tB'):PW X (.BoolOp .Or (a::b::rest) pos) (NX tA tB'):=by
 intro wh pins s σ H Q I h;refine isTrue_or (iN (ha pins s σ H _ I h) λc f ⟨H1,I1,d⟩=>?_)
 cases c with
 | true=>exact⟨H1,I1,d⟩
 | false=>exact hb wh pins f σ H1 Q I1 d
def Iq(ha:PT X a tA):PT X (.UnaryOp .Not a pos) (Ml tA):=by
 fin2;exact isTrue_not<|ha pins s σ H (λc H1=>Q (!c) H1) I h
abbrev K2 (ta tb:TE):TE:=λσ H Q=>ta σ H λx H1=>∃c,x=.bl c/\if c=true then tb σ H1 Q else Q (.bl false) H1
abbrev KC (ta:TE):TE:=λσ H Q=>ta σ H λx H1=>∃c,x=.bl c/\Q (.bl<|!c) H1
def Jf{op}{t:TE}(h:PE X a t):PE X (.BoolOp op [a] pos) t:=λpins s σ H Q I hw=>BoolOp_one<|h pins s σ H Q I hw
def JF(ha:PE X a ta)(hb:PE X (.BoolOp .And (b::rest) pos) tb):PE X (.BoolOp .And (a::b::rest) pos) (K2 ta tb):=by
 fin2;refine BoolOp_and<|iN (ha pins s σ H _ I h) λv f ⟨x,H1,I1,r1,d⟩=>?_;obtain⟨c,rfl,d⟩:=d
 cases r1
 refine c6 ?_
 cases c with
 | true=>exact hb pins f σ H1 Q I1 d
 | false=>exact⟨.bl false,H1,I1,rfl,d⟩
def IZ(ha:PE X a ta):PE X (.UnaryOp .Not a pos) (KC ta):=by
 fin2;refine UnaryOp_<|iN (ha pins s σ H _ I h) λv f ⟨x,H1,I1,r1,d⟩=>?_;obtain⟨c,rfl,d⟩:=d
 cases r1
 exact not_of<|c6 ⟨.bl<|!c,H1,I1,rfl,d⟩
end
abbrev jh (K:aq)(H:Hp)(a:aj)(xs:List V):Prop:=
 Rd H a (.lst xs) \/
  ∃(o:Obj) (d:Array aa) (n:Nat),K.lookup a=some o/\o.cls=.type "list" /\ o.dict=none/\o.data=.seq d n/\d.size<=sizeLine/\Vals xs d.toList
abbrev kO (K:aq)(H:Hp)(a:aj)(xs:List V):Prop:=
 Rd H a (.tup xs) \/
  ∃(o:Obj) (d:Array aa) (n:Nat),K.lookup a=some o/\o.cls=.type "tuple" /\ o.dict=none/\o.data=.seq d n/\d.size<=sizeLine/\Vals xs d.toList
abbrev Nd:aa->Option V
 | .none=>some .non
 | .bool b=>some (.bl b)
 | .int i _=>some (.int i)
 | .str x _=>some (.str x)
 | .bytes b _=>some (.byt b)
 | .float b _=>some (.flt b)
 | .ref a=>some (.ref a)
 | .type n=>some (.ty n)
 | _=>none
def RelV.abs{x:V}(r:RelV x u):Nd u=some x:=by
 cases x with
 | non=>cases r;rfl
 | bl _=>cases r;rfl
 | int _=>obtain⟨t,rfl⟩:=r;rfl
 | str _=>obtain⟨t,rfl⟩:=r;rfl
 | byt _=>obtain⟨t,rfl⟩:=r;rfl
 | flt _=>obtain⟨t,rfl⟩:=r;rfl
 | ref _=>cases r;rfl
 | ty _=>cases r;rfl
def RelV.inj{x:V}(r:RelV x u)(q:RelV y u):x=y:=aR<|r.abs.symm.trans q.abs
theorem Vals.inj:∀{xs ys:List V}{us:ar},Vals xs us->Vals ys us->xs=ys
 | _,_,_,.nil,.nil=>rfl
 | _,_,_,.cons r t,.cons d f=>by rw[r.inj d,Vals.inj t f]
section
variable {X:Cx}{pins:bn}{σ:St}{H:Hp}{s:aA}{a:aj}{xs ys:List V}
def jh.of{K:aq}(h:H a=some (.lst xs)):jh K H a xs:=.inl<|.inl h
def kO.of{K:aq}(h:H a=some (.tup xs)):kO K H a xs:=.inl<|.inl h
def Inv.list(I:Inv X pins σ H s)(h:jh X.K H a xs):∃its:ar,Vals xs its/\PlainL s.heap a its.toArray/\xs.length<=sizeLine:=by
 rcases h with h|⟨o,its,n,d,hc,hd,hs,f,r⟩
 ·obtain⟨z,its,n,r,e⟩:=h.ok I.hok;exact⟨its,r,⟨_,n,e,rfl,rfl,rfl⟩,z⟩
 ·refine⟨its.toList,r,⟨o,n,I.vI a o d,hc,hd,by simpa using hs⟩,?_⟩;have e:=r.length;dsimp[dc]at e
  lia
def Inv.tuple(I:Inv X pins σ H s)(h:kO X.K H a xs):∃its:ar,Vals xs its/\IsTup s.heap a its.toArray/\xs.length<=sizeLine:=by
 rcases h with h|⟨o,its,n,d,hc,_,hs,f,r⟩
 ·obtain⟨z,its,r,p⟩:=h.ok I.hok;exact⟨its,r,p.tup,z⟩
 ·refine⟨its.toList,r,⟨o,I.vI a o d,hc,n,by simpa using hs⟩,?_⟩;have e:=r.length;dsimp[dc]at e
  lia
def Inv.pS(I:Inv X pins σ H s)(h:jh X.K H a xs)(h':jh X.K H a ys):xs=ys:=by
 obtain⟨g,r,⟨o,n,e,_,_,d⟩,_⟩:=I.list h;obtain⟨f,m,⟨o',z,j,_,_,k⟩,_⟩:=I.list h';rw[e]at j;cases j;rw[d]at k
 injection k with t _
 have:g=f:=by simpa using b_ Array.toList t
 subst this;exact r.inj m
def Inv.uo(I:Inv X pins σ H s)(h:kO X.K H a xs)(h':kO X.K H a ys):xs=ys:=by
 obtain⟨g,r,⟨o,e,_,n,d⟩,_⟩:=I.tuple h;obtain⟨f,m,⟨o',j,_,z,k⟩,_⟩:=I.tuple h';rw[e]at j;cases j;rw[d]at k
 injection k with t _
 have:g=f:=by simpa using b_ Array.toList t
 subst this;exact r.inj m
end
meta abbrev Cx.sW (X:Cx)(E:aa->aA->Prop):Cx:={ X with xe:=E }
meta abbrev Cx.LA (X:Cx):Cx:=X.sW λ_ _=>False
def Cx.Ok.sW{X:Cx}(ok:X.Ok)(E:aa->aA->Prop):(X.sW E).Ok:=
 ⟨ok.mod,ok.kind,ok.glob,ok.blt,ok.above,ok.inj,ok.has,ok.cab,ok.hd,ok.frames,ok.stk,ok.exf,ok.bs,ok.bsz,ok.noex,ok.exfs,ok.sM,ok.frf⟩
def Cx.Ok.nP{X:Cx}{E:aa->aA->Prop}(ok:(X.sW E).Ok):X.Ok:=
 ⟨ok.mod,ok.kind,ok.glob,ok.blt,ok.above,ok.inj,ok.has,ok.cab,ok.hd,ok.frames,ok.stk,ok.exf,ok.bs,ok.bsz,ok.noex,ok.exfs,ok.sM,ok.frf⟩
section
variable {X:Cx}{pins:bn}{σ:St}{H:Hp}{s:aA}{E:aa->aA->Prop}
def Inv.sW(I:Inv X pins σ H s)(E:aa->aA->Prop):Inv (X.sW E) pins σ H s:=⟨I.ok.sW E,I.os,I.bare,I.base,I.loc,I.cell,I.free,I.freeC,I.pin,I.hok,I.len⟩
def Inv.nP(I:Inv (X.sW E) pins σ H s):Inv X pins σ H s:=⟨I.ok.nP,I.os,I.bare,I.base,I.loc,I.cell,I.free,I.freeC,I.pin,I.hok,I.len⟩
def SP.nP{f:Flow}(h:SP (X.sW E) pins D f s'):SP X pins D f s':=by
 cases f with
 | next=>obtain⟨d,H',I,q⟩:=h;exact⟨d,H',I.nP,q⟩
 | brk=>obtain⟨d,H',I,q⟩:=h;exact⟨d,H',I.nP,q⟩
 | cont=>obtain⟨d,H',I,q⟩:=h;exact⟨d,H',I.nP,q⟩
 | ret u=>obtain⟨v,d,H',I,r,q⟩:=h;exact⟨v,d,H',I.nP,r,q⟩
def ve.LA{st:List aE}{t:TS}(h:ve X.LA st t):ve X st t:=λpins s σ H D I hw=>
 cS (h pins s σ H D (I.sW _) hw) (λ_ _ q=>q.nP) λ_ _ z=>False.elim z
end
section
variable {X:Cx}{st:aE}{rest:List aE}{t u:TS}{e:aC}{te:TE}{pos:Pos}
abbrev LK:TS:=λD σ H=>D.nx σ H
abbrev LR (t u:TS):TS:=λD σ H=>t { D with nx:=u D } σ H
def Gf:ve X [] LK:=λ_ _ σ H _ I h=>e_ ⟨σ,H,I,h⟩
def CD(h1:PS X st t)(h2:ve X rest u):ve X (st::rest) (LR t u):=by
 kpf_c;refine wpAny_execs_cons (iN (h1 pins s σ H { D with nx:=u D } I h) λf j q=>?_)
 cases f with
 | next=>
  obtain⟨d,H',g,q⟩:=q;exact h2 pins j d H' D g q
 | ret v=>exact q
 | brk=>exact q
 | cont=>exact q
def F0(h1:PS X st t):ve X [st] t:=by
 kpf_c;refine wpAny_execs_cons (iN (h1 pins s σ H D I h) λf d q=>?_)
 cases f with
 | next=>exact e_ q
 | ret v=>exact q
 | brk=>exact q
 | cont=>exact q
def Inv.quiet{H:Hp}(I:Inv X pins σ H s):interactive X.env=false:=by simp[interactive,I.ok.kind]
abbrev La (te:TE):TS:=λD σ H=>te σ H λ_ H1=>D.nx σ H1
def GL(he:PE X e te)(hs:swapsWith e none pos.line X.env=pure false:=by rfl):PS X (.Expr e pos) (La te):=by
 kpf_c;exact wpAny_Expr_any (iN (he pins s σ H _ I h) λv f ⟨x,H1,I1,r1,d⟩=>⟨σ,H1,I1,d⟩) I.quiet hs
abbrev Mn (te:TE):TS:=λD σ H=>te σ H D.rt
def IU(he:PE X e te):PS X (.Return (some e) pos) (Mn te):=by
 kpf_c;exact wpAny_Return_some<|iN (he pins s σ H _ I h) λv f ⟨x,H1,I1,r1,d⟩=>⟨x,σ,H1,I1,r1,d⟩
abbrev Nk (c:TT)(t u:TS):TS:=λD σ H=>c σ H λb H1=>if b=true then t D σ H1 else u D σ H1
def Lm{a:List aE}{tc:TT}(hc:PT X c tc)(ha:ve X a t)(hb:ve X b u):PS X (.If c a b pos) (Nk tc t u):=by
 kpf_c;refine wpAny_If (iN (hc pins s σ H _ I h) λd g ⟨H1,I1,f⟩=>?_)
 cases d with
 | true=>exact ha pins g σ H1 D I1 f
 | false=>exact hb pins g σ H1 D I1 f
abbrev IG:TS:=λ_ _ _=>False
def DE:PS X st IG:=λ_ _ _ _ _ _ h=>h.elim
end
meta abbrev TG:=V->St->Hp->(St->Hp->Prop)->Prop
meta abbrev HQ:=List V->St->Hp->(St->Hp->Prop)->Prop
abbrev PG (X:Cx)(target:aC)(t:TG):Prop:=
 ∀(pins:bn) (s:aA) (σ:St) (H:Hp) (v:V) (u:aa) (Q:St->Hp->Prop),Inv X pins σ H s->RelV v u->t v σ H Q ->
  wpAny (model X.prog X.w) X.A (assign target X.env u) (λ_ s'=>∃d H',Inv X pins d H' s'/\Q d H') X.xe s
abbrev K9 (X:Cx)(ts:List aC)(t:HQ):Prop:=
 ∀(pins:bn) (s:aA) (σ:St) (H:Hp) (f:List V) (us:ar) (Q:St->Hp->Prop),Inv X pins σ H s->Vals f us->t f σ H Q ->
  wpAny (model X.prog X.w) X.A (assignInOrder ((assignEach ts X.env).map (·.2)) us) (λ_ s'=>∃d H',Inv X pins d H' s'/\Q d H') X.xe s
meta abbrev GI:=V->V->V->Hp->(Hp->Prop)->Prop
abbrev Km (X:Cx)(t:GI):Prop:=
 ∀(pins:bn) (s:aA) (σ:St) (H:Hp) (o i v:V) (f d u:aa) (Q:Hp->Prop),Inv X pins σ H s->RelV o f->RelV i d->RelV v u->t o i v H Q ->
  wpAny (model X.prog X.w) X.A (setItem f d u) (λ_ s'=>∃H',Inv X pins σ H' s'/\Q H') X.xe s
meta abbrev LG:=V->V->Hp->VK->Prop
abbrev L5 (X:Cx)(op:Operator)(t:LG):Prop:=
 ∀(pins:bn) (s:aA) (σ:St) (H:Hp) (x y:V) (v u:aa) (Q:VK),Inv X pins σ H s->RelV x v->RelV y u->t x y H Q ->
  wpAny (model X.prog X.w) X.A (inplaceOp op v u) (EP X pins σ Q) X.xe s
section
variable {X:Cx}{pos:Pos}
abbrev zG (i:Nat):TG:=λv σ H Q=>Q (σ.set i<|some v) H
def vA{i:Nat}{x:Str}(hN:X.N.Nodup)(hi:X.N[i]?=some x)(hx:Loc X.env.scope x)(hf:X.fn x=true\/X.env.scope.names.lookup x=some .local:=by first|exact .inl rfl|exact .inr rfl|assumption):PG X (.Name x pos) (zG i):=by
 intro pins s σ H v u Q I r h;exact wpAny_assign_Name<|sQ I hN hi hx r (λs' d=>⟨_,H,d,h⟩) hf
abbrev M5:HQ:=λd σ H Q=>d=[]/\Q σ H
abbrev Kx (t:TG)(u:HQ):HQ:=λf σ H Q=>∃v r,f=v::r/\t v σ H λd H'=>u r d H' Q
def F4:K9 X [] M5:=by
 intro pins s σ H d us Q I r h;obtain⟨e,h⟩:=h;subst e
 cases r
 exact assignInOrder_nil ⟨σ,H,I,h⟩
def Cg{t:TG}{u:HQ}(h1:PG X e t)(h2:K9 X es u)
  (hs:(assignEach (e::es) X.env).map (·.2)=assign e X.env::(assignEach es X.env).map (·.2):=by rfl):K9 X (e::es) (Kx t u):=by
 intro pins s σ H k us Q I r h;obtain⟨v,m,e1,h⟩:=h;subst e1
 cases r with
 | cons r f=>
  rw[hs];refine assignInOrder_cons<|iN (h1 pins s σ H _ _ _ I r h) λ_ g ⟨d,H1,I1,j⟩=>?_;exact h2 pins g d H1 _ _ Q I1 f j
abbrev Mx (K:aq)(n:Nat)(t:HQ):TG:=λv σ H Q=>∃a xs,v=.ref a/\kO K H a xs/\xs.length=n/\t xs σ H Q
def J3{k:Nat}{t:HQ}{n:Nat}(hc:X.calm=true)(h:K9 X es t)
  (hn:(assignEach es X.env).length=n:=by rfl) (hst:(assignEach es X.env).findIdx? (·.1)=none:=by rfl):PG X (.Tuple es k pos) (Mx X.K n t):=by
 intro pins s σ H v u Q I r hw;obtain⟨a,xs,e1,m,f,hw⟩:=hw;subst e1
 cases r
 obtain⟨j,d,g,z⟩:=I.tuple m;refine assign_Tuple_tuple (I.ok.hd hc) g (by simp[hn,<- f,d.length]) hst λh' hx=>?_;have I1:Inv X pins σ H { s with heap:=h' }:=I.kept (t':=s.toks) λb o e=>hx b o (bu<|aV e) e;exact h pins _ σ H xs _ Q I1 (by simpa using d) hw
abbrev MD (to ti:TE)(t:GI):TG:=λv σ H Q=>to σ H λo H1=>ti σ H1 λi H2=>t o i v H2 λd=>Q σ d
def J6{to ti:TE}{t:GI}(ho:PE X o to)(hi:PE X i ti)(hs:Km X t)
  (ha:∀v,assign (.Subscript o i pos) X.env v=(do
   let ov <- holding [v] (eval o X.env)
   let iv <- holding [v,ov] (eval i X.env)
   standAt pos
   holding [v,ov,iv] (setItem ov iv v)
   release [v,ov,iv] []):=by intro _;rfl):PG X (.Subscript o i pos) (MD to ti t):=by
 intro pins s σ H v u Q I r h;rw[ha];refine aJ<|cM<|iN (ho pins s σ H _ I h) λov g ⟨x,H1,I1,r1,k⟩=>?_;refine aJ<|cM<|iN (hi pins g σ H1 _ I1 k) λiv j ⟨y,H2,f,r2,d⟩=>?_;refine aJ<|bW<|aJ<|cM<|iN (hs pins j σ H2 x y v ov iv u _ f r1 r2 r d) λ_ B ⟨z,I3,m⟩=>?_;exact wpAny_release ⟨σ,z,I3,m⟩
abbrev Cy (te:TE)(g:TG):TS:=λD σ H=>te σ H λx H1=>g x σ H1 D.nx
def Il{tg:aC}{te:TE}{g:TG}(he:PE X e te)(hg:PG X tg g)(hs:swapsWithSole [tg] e pos.line X.env=pure false:=by rfl)(hw:swappedStores [tg] e X.env=pure none:=by rfl)
  (h1:(assignEach [tg] X.env).map (·.2)=[assign tg X.env]:=by rfl):PS X (.Assign [tg] e pos) (Cy te g):=by
 kpf_c;refine wpAny_Assign_stores (iN (he pins s σ H _ I h) λv f ⟨x,H1,I1,r1,d⟩=>?_) hs hw;rw[h1];exact iN (hg pins f σ H1 x v _ I1 r1 d) λ_ j q=>q
def JE{i:Nat}{x:Str}{te:TE}(hN:X.N.Nodup)(hi:X.N[i]?=some x)(hx:Loc X.env.scope x)(he:PE X e te)(hs:swapsWith e (some<|.Name x pos') pos.line X.env=pure false:=by rfl)(hf:X.fn x=true\/X.env.scope.names.lookup x=some .local:=by first|exact .inl rfl|exact .inr rfl|assumption) :
  PS X (.Assign [.Name x pos'] e pos) (Cy te<|zG i):=by
 kpf_c;refine wpAny_Assign_Name (iN (he pins s σ H _ I h) λv g ⟨y,H1,I1,r1,d⟩=>?_) hs;exact sQ I1 hN hi hx r1 (λj f=>⟨_,H1,f,d⟩) hf
abbrev Mj (i:Nat)(te:TE)(ti:LG):TS:=λD σ H=>∃x,σ[i]?=some (some x)/\te σ H λy H1=>ti x y H1 λz H2=>D.nx (σ.set i<|some z) H2
def Iw{i:Nat}{x:Str}{te:TE}{ti:LG}(hN:X.N.Nodup)(hi:X.N[i]?=some x)(hx:Loc X.env.scope x)(he:PE X e te)(ho:L5 X op ti)(hf:X.fn x=true\/X.env.scope.names.lookup x=some .local:=by first|exact .inl rfl|exact .inr rfl|assumption) :
  PS X (.AugAssign (.Name x pos') op e pos) (Mj i te ti):=by
 kpf_c;obtain⟨v,e1,h⟩:=h;obtain⟨m,hn,F⟩:=I.loc;have t:Lu X.env.scope x:=by rcases hx with k|k;exact .inl k;exact .inr (.inl k)
 obtain⟨u,r,l⟩:=F i x v hi e1 t;refine wpAny_AugAssign_Name ?_;have B:wpAny (model X.prog X.w) X.A (eval e X.env) (λw j=>wpAny (model X.prog X.w) X.A (inplaceOp op u w) (λr g=>wpAny (model X.prog X.w) X.A (storeName X.env x r) (λ_=>SP X pins D .next) X.xe g) X.xe j) X.xe s:=by
  refine iN (he pins s σ H _ I h) λw J ⟨y,H1,I1,r1,K⟩=>?_;refine iN (ho pins J σ H1 v y u w _ I1 r r1 K) λz M ⟨L,H2,G,r2,C⟩=>?_;exact sQ G hN hi hx r2 (λO I3=>⟨_,H2,I3,C⟩) hf
 rcases l with⟨d,hm⟩|⟨d,c,hc,f⟩
 ·exact wpAny_loadName_local I.ok.kind d hn hm B
 ·rcases d with d|d
  ·exact wpAny_loadName_cell I.ok.kind d hc f B
  ·rcases hx with k|k
   ·have:X.env.scope.names.lookup x=some .free:=d;rw[k]at this;cases this
   ·have:X.env.scope.names.lookup x=some .free:=d;rw[k]at this;cases this
abbrev Oj (f:Int->Int->Int):LG:=λx y H Q=>∃i j,x=.int i/\y=.int j/\Q (.int<|f i j) H
def JB:L5 X .Sub (Oj λi j=>i-j):=by
 intro pins s σ H x y v u Q I r1 r2 h;obtain⟨i,j,e1,e2,q⟩:=h;subst e1;subst e2;obtain⟨t,rfl⟩:=r1;obtain⟨d,rfl⟩:=r2;exact isub_int ⟨.int _,H,I.tok _,⟨_,rfl⟩,q⟩
end
section
variable {X:Cx}{pos:Pos}
abbrev CY (c:TT)(tb:TS):TS:=λD σ H=>∃W:Nat->St->Hp->Prop,(∃m,W m σ H)/\∀m σ H,W m σ H ->
 c σ H λb H1=>if b=true then ∃N:St->Hp->Prop,(∀d H',N d H'->∃m',m'<m/\W m' d H')/\tb { D with nx:=N,ct:=N,bk:=D.nx } σ H1 else D.nx σ H1
def Ca{tc:TT}{tb:TS}(hp:PassesOwn (model X.prog X.w) X.A X.env X.xe)(hc:PT X c tc)(hb:ve X body tb):PS X (.While c body [] pos) (CY tc tb):=by
 kpf_c;obtain⟨W,⟨J,K⟩,j⟩:=h;refine wpAny_While<|codeAny_whileLoop (λn s'=>∃k H',Inv X pins k H' s'/\W n k H') ?_ J ⟨σ,H,I,K⟩;rintro n M ⟨g,H1,I1,L⟩;refine cZ hp (iN (hc pins M g H1 _ I1<|j n g H1 L) λb O ⟨H2,F,t⟩=>?_)
 cases b with
 | true=>
  obtain⟨N,G,t⟩:=t;rw[aX rfl];refine cZ hp (iN (hb pins O g H2 _ F t) λf P z=>?_)
  cases f with
  | next=>
   obtain⟨d,m,I3,B⟩:=z;obtain⟨m',hm,C⟩:=G d m B;exact⟨m',hm,d,m,I3,C⟩
  | cont=>
   obtain⟨d,m,I3,B⟩:=z;obtain⟨m',hm,C⟩:=G d m B;exact⟨m',hm,d,m,I3,C⟩
  | brk=>exact z
  | ret v=>exact z
 | false=>
  rw[aZ bh];exact e_ ⟨g,H2,F,t⟩
end
structure It where
 go:Nat->Hp->Prop
 yld:Nat->Hp->V->Hp->Prop
 stop:Nat->Hp->Prop
abbrev kY (X:Cx)(pins:bn)(H:Hp)(b:aj):Prop:=
 H b=none/\b≠X.env.locals/\b∉X.fs/\(b∈X.ex\/X.s₀.heap.objs.size<=b)/\(∀x c,X.env.cells.lookup x=some c->c≠b)/\∀p∈X.pn++pins,p.1≠b
def Inv.sY{H H':Hp}{s:aA}(I:Inv X pins σ H s)(hb:s.heap.objs.size<=b)(hn:H' b=none):kY X pins H' b:=by
 refine⟨hn,fZ<|bG I.lt hb,I.My hb,.inr<|b6 I.sz hb,λx c e z=>?_,λp hp z=>?_⟩
 ·obtain⟨v,q⟩:=I.cell x c e;exact absurd (bG q.lt<|by rw[z];exact hb) (dX _)
 ·exact absurd (bG (aV (I.pin p hp).1)<|by rw[z];exact hb)<|dX _
structure Turn (P:ah)(w:af)(K:aq)(tg:aC)(J:It)(fp:ba)(it:aj)(tn:Nat->ak->Prop):Prop where
 mem:it∈fp
 obj:∀i h,tn i h->∀b∈fp,∃o,h.get? b=some o/\∀v,o.data≠.cell v
 keep:∀i h h',tn i h->(∀b∈fp,∀o,h.get? b=some o->h'.get? b=some o)->tn i h'
 item:∀(X:Cx),X.prog=P->X.w=w->X.K=K->X.calm=true->∀(i:Nat) (pins:bn) (s:aA) (σ:St) (H:Hp) (E:aa->aA->Prop),Inv X pins σ H s->(∀b∈fp,kY X pins H b)->tn i s.heap->J.go i H ->
  wpAny (model P w) X.A (pyNext<|.ref it) (λr s1=>∃u,r=some u /\
   wpAny (model P w) X.A (letOwnedTupleGo tg (.ref it) u) (λ_ s2=>∃x H',Inv X pins σ H' s2/\RelV x u/\J.yld i H x H'/\tn (i+1) s2.heap/\∀b∈fp,H' b=none) E s1) E s
 done:∀(X:Cx),X.prog=P->X.w=w->X.K=K->X.calm=true->∀(i:Nat) (pins:bn) (s:aA) (σ:St) (H:Hp) (E:aa->aA->Prop),Inv X pins σ H s->(∀b∈fp,kY X pins H b)->tn i s.heap->J.stop i H ->
  wpAny (model P w) X.A (pyNext<|.ref it) (λr s1=>r=none/\Inv X pins σ H s1) E s
 self:∀(A:au) (i:Nat) (s:aA) (Q:aa->aA->Prop) (E:aa->aA->Prop),tn i s.heap->Q (.ref it) s->wpAny (model P w) A (pyIter<|.ref it) Q E s
meta abbrev TI:=St->Hp->(It->Hp->Prop)->Prop
abbrev M7 (X:Cx)(pins:bn)(σ:St)(tg:aC)(R:It->Hp->Prop)(itv:aa)(s2:aA):Prop:=
 ∃(it:aj) (fp:ba) (d:Nat->ak->Prop) (J:It) (H':Hp),itv=.ref it/\Inv X pins σ H' s2/\Turn X.prog X.w X.K tg J fp it d/\d 0 s2.heap/\(∀b∈fp,kY X pins H' b)/\R J H'
abbrev PI (X:Cx)(tg iter:aC)(wi:TI):Prop:=
 ∀(pins:bn) (s:aA) (σ:St) (H:Hp) (R:It->Hp->Prop),Inv X pins σ H s->wi σ H R ->
  wpAny (model X.prog X.w) X.A (eval iter X.env) (λv d=>wpAny (model X.prog X.w) X.A (pyIter v) (M7 X pins σ tg R) X.xe d) X.xe s
def xJ{A:au}{E:aa->aA->Prop}{s:aA}{o:Obj}{n:String}{Q:Unit->aA->Prop}(ho:s.heap.get? it=some o)(hc:o.cls=.type n)(hd:o.data=.fields vs)
  (hn:["enumerate", "zip", "dict_itemiterator", "dict_reverseitemiterator", "odict_iterator", "itertools.zip_longest", "itertools.pairwise"].contains n=false) (hQ:Q Unit.unit s):wpAny M A (letOwnedTupleGo tg (.ref it) u) Q E s:=by
 unfold letOwnedTupleGo
 cases tg<;>first
  | exact aT hQ
  | (cases u<;>first
    | exact aT hQ
    | (refine aJ (wpAny_load ho ?_)
       rw[hc,hd];show wpAny M A (if (["enumerate", "zip", "dict_itemiterator", "dict_reverseitemiterator", "odict_iterator", "itertools.zip_longest", "itertools.pairwise"].contains n && vs[0]? == some (rawInt _))=true then _ else _) Q E s;rw[aZ<|by intro h;rw[hn,Bool.false_and]at h;cases h];exact aT hQ))
abbrev L4 (K:aq)(a:aj):It:=
 ⟨λi H=>∃xs x,jh K H a xs/\xs[i]?=some x,λi H x H'=>H'=H/\∀xs,jh K H a xs->xs[i]?=some x,λi H=>∃xs,jh K H a xs/\xs.length<=i⟩
abbrev MA (K:aq)(a:aj):It:=
 ⟨λi H=>∃xs x,kO K H a xs/\xs[i]?=some x,λi H x H'=>H'=H/\∀xs,kO K H a xs->xs[i]?=some x,λi H=>∃xs,kO K H a xs/\xs.length<=i⟩
abbrev Lg (lo:Int)(n:Nat):It:=⟨λi _=>i<n,λi H x H'=>H'=H/\x=.int (lo+i),λi _=>n<=i⟩
def BH{P:ah}{w:af}{K:aq}(a it:aj):Turn P w K tg (L4 K a) [it] it (λi h=>h.IsListIter it a i) where
 mem:=by simp
 obj:=λi h st b hb=>by
  have e:b=it:=by simpa using hb
  subst e;obtain⟨o,e,c,d⟩:=st;exact⟨o,e,λv z=>by rw[d]at z;cases z⟩
 keep:=λi h h' st k=>st.at λo e=>k it (by simp) o e
 item:=by
  room;subst hP hw hK;obtain⟨xs,x,g,hx⟩:=hg;obtain⟨j,m,p,F⟩:=I.list g;obtain⟨u,G,B⟩:=m.get hx;w_up;refine wpAny_pyNext_list_item st p.isList (x:=u) (by simpa using G) λh' f t=>?_;have I1:Inv X pins σ H { s with heap:=h' }:=I.turned (t':=s.toks) (λb o hb e=>(t.2 b hb).trans e) f0 f1 f3 f4 f5;obtain⟨o,e,c,d⟩:=id f;exact⟨u,rfl,xJ (s:={ s with heap:=h' }) e c d ⋯ ⟨x,H,I1,B,⟨rfl,λys hy=>by rw[I.pS hy g];exact hx⟩,f,λb hb=>(hf b hb).1⟩⟩
 done:=by
  room;subst hP hw hK;obtain⟨xs,g,hx⟩:=hg;obtain⟨j,m,p,F⟩:=I.list g;w_up;have J:=m.length;exact wpAny_pyNext_list_end (I.ok.hd hc) st p.isList (by simp;omega) λh' C=>⟨rfl,I.turned (t':=s.toks) (λb o hb e=>C b o hb e) f0 f1 f3 f4 f5⟩
 self:=λ_ _ _ _ _ st h=>wpAny_pyIter_listiter st h
theorem yI{P:ah}{w:af}{K:aq}(a it:aj):Turn P w K tg (MA K a) [it] it (λi h=>h.IsTupleIter it a i) where
 mem:=by simp
 obj:=λi h st b hb=>by
  have e:b=it:=by simpa using hb
  subst e;obtain⟨o,e,c,d⟩:=st;exact⟨o,e,λv z=>by rw[d]at z;cases z⟩
 keep:=λi h h' st k=>st.at λo e=>k it (by simp) o e
 item:=by
  room;subst hP hw hK;obtain⟨xs,x,j,hx⟩:=hg;obtain⟨f,m,p,F⟩:=I.tuple j;obtain⟨u,G,B⟩:=m.get hx;w_up;refine wpAny_pyNext_tuple_item st (show s.heap.IsTuple a f.toArray from p) (x:=u) (by simpa using G) λh' g t=>?_;have I1:Inv X pins σ H { s with heap:=h' }:=I.turned (t':=s.toks) (λb o hb e=>(t.2 b hb).trans e) f0 f1 f3 f4 f5;obtain⟨o,e,c,d⟩:=id g;exact⟨u,rfl,xJ (s:={ s with heap:=h' }) e c d ⋯ ⟨x,H,I1,B,⟨rfl,λys hy=>by rw[I.uo hy j];exact hx⟩,g,λb hb=>(hf b hb).1⟩⟩
 done:=by
  room;subst hP hw hK;obtain⟨xs,j,hx⟩:=hg;obtain⟨f,m,p,F⟩:=I.tuple j;w_up;have J:=m.length;exact wpAny_pyNext_tuple_end (I.ok.hd hc) st (show s.heap.IsTuple a f.toArray from p) (by simp;omega) λh' C=>⟨rfl,I.turned (t':=s.toks) (λb o hb e=>C b o hb e) f0 f1 f3 f4 f5⟩
 self:=λ_ _ _ _ _ st h=>wpAny_pyIter_tupleiter st h
def yx{P:ah}{w:af}{K:aq}(it:aj)(lo:Int)(n:Nat):Turn P w K tg (Lg lo n) [it] it (λi h=>IsRangeIter h it (lo+(i:Nat) * 1) ((n:Int)-(i:Nat)) 1) where
 mem:=by simp
 obj:=λi h st b hb=>by
  have e:b=it:=by simpa using hb
  subst e;exact⟨_,st,λv z=>by
   have m:Data.fields _=Data.cell v:=z
   cases m⟩
 keep:=λi h h' st k=>k it (by simp) _ st
 item:=by
  room;subst hP hw hK;w_up;have W:=Walks.range (prog:=X.prog) (w:=X.w) (I.ok.hd hc) it lo 1 n;refine W.item i s _ _ hg st λv h' f hv d g=>?_;obtain⟨t,rfl⟩:=hv;have I1:Inv X pins σ H { s with heap:=h',toks:=f }:=I.turned (λb o hb e=>g b o (by simpa using hb) e) f0 f1 f3 f4 f5;refine⟨_,rfl,xJ (s:={ s with heap:=h',toks:=f }) (n := "range_iterator") d rfl rfl ⋯ ⟨.int<|lo+i,H,I1,⟨t,?_⟩,⟨rfl,rfl⟩,d,λb hb=>(hf b hb).1⟩⟩;rw[Int.mul_one]
 done:=by
  room;subst hP hw hK;w_up;exact wpAny_pyNext_range_end (I.ok.hd hc) st (by have:n<=i:=hg;lia) λh' j=>⟨rfl,I.turned (t':=s.toks) (λb o hb e=>j b o hb e) f0 f1 f3 f4 f5⟩
 self:=λ_ _ _ _ _ st h=>wpAny_pyIter_rangeiter st h
section
variable {X:Cx}{tg:aC}
abbrev L0 (K:aq)(tl:TE):TI:=λσ H R=>tl σ H λx H1=>∃a,x=.ref a/\(∃xs,jh K H1 a xs)/\R (L4 K a) H1
abbrev MG (K:aq)(tl:TE):TI:=λσ H R=>tl σ H λx H1=>∃a,x=.ref a/\(∃xs,kO K H1 a xs)/\R (MA K a) H1
def zp{tl:TE}(hl:PE X l tl):PI X tg l (L0 X.K tl):=by
 intro pins s σ H R I h;refine iN (hl pins s σ H _ I h) λv d ⟨x,H1,I1,r1,g⟩=>?_;obtain⟨a,e,⟨xs,j⟩,q⟩:=g;subst e
 cases r1
 obtain⟨f,m,p,k⟩:=I1.list j;refine wpAny_pyIter_list p.isList ?_;refine⟨d.heap.objs.size,[d.heap.objs.size],_,_,H1,rfl,I1.kept (t':=d.toks) λb o e=>aW _ e,BH a _,⟨_,bR _ rfl,rfl,rfl⟩,λb hb=>?_,q⟩;have e:b=d.heap.objs.size:=by simpa using hb
 subst e;mg_lt
def Cw{tl:TE}(hl:PE X l tl):PI X tg l (MG X.K tl):=by
 intro pins s σ H R I h;refine iN (hl pins s σ H _ I h) λv d ⟨x,H1,I1,r1,g⟩=>?_;obtain⟨a,e,⟨xs,j⟩,q⟩:=g;subst e
 cases r1
 obtain⟨f,m,p,k⟩:=I1.tuple j;refine wpAny_pyIter_tuple (show d.heap.IsTuple a f.toArray from p) ?_;refine⟨d.heap.objs.size,[d.heap.objs.size],_,_,H1,rfl,I1.kept (t':=d.toks) λb o e=>aW _ e,yI a _,⟨_,bR _ rfl,rfl,rfl⟩,λb hb=>?_,q⟩;have e:b=d.heap.objs.size:=by simpa using hb
 subst e;mg_lt
def xU{H:Hp}{s:aA}{R:It->Hp->Prop}{E:aa->aA->Prop}{lo hi:Int}{v:Tok}{tk:Nat}(I:Inv X pins σ H s)(h1:-(2 ^ 62)<=lo)(h2:lo<2 ^ 62)(h3:-(2 ^ 62)<=hi)(h4:hi<2 ^ 62)
  (q:R (Lg lo (hi-lo).toNat) H):wpAny (model X.prog X.w) X.A (pyIter<|.ref s.heap.objs.size) (M7 X pins σ tg R) E { s with heap:=s.heap.push { cls:=.type "range",data:=.fields #[.int lo t,.int hi u,.int 1 v]},toks:=tk }:=by
 refine wpAny_pyIter_range (IsRange.new ..) (small_one h1 h2 h3 h4) ?_;have I1:Inv X pins σ H { s with heap:=s.heap.push { cls:=.type "range",data:=.fields #[.int lo t,.int hi u,.int 1 v]},toks:=tk }:=I.kept λb o e=>aW _ e;refine⟨(s.heap.push { cls:=.type "range",data:=.fields #[.int lo t,.int hi u,.int 1 v]}).objs.size,[(s.heap.push { cls:=.type "range",data:=.fields #[.int lo t,.int hi u,.int 1 v]}).objs.size],_,_,H,rfl,
  I1.kept (t':=tk) λb o e=>aW _ e,yx _ lo (hi-lo).toNat,?_,λb hb=>?_,q⟩
 ·have e1:lo+((0:Nat):Int) * 1=lo:=by simp
  have e2:(((hi-lo).toNat:Nat):Int)-((0:Nat):Int)=Builtin.Range.rangeSize lo hi 1:=by rw[rangeSize_one];split<;>lia
  skip
  rw[e1,e2];exact bR _ rfl
 ·have e:b=(s.heap.push { cls:=.type "range",data:=.fields #[.int lo t,.int hi u,.int 1 v]}).objs.size:=by simpa using hb
  subst e;mg_lt
abbrev j_ (ta:TA):TI:=λσ H R=>ta σ H λd H1=>∃j:Int,d=[.int j]/\-(2 ^ 62)<=j/\j<2 ^ 62/\R (Lg 0 j.toNat) H1
abbrev qP (ta:TA):TI:=λσ H R=>ta σ H λd H1=>∃i j:Int,d=[.int i,.int j]/\(-(2 ^ 62)<=i/\i<2 ^ 62/\-(2 ^ 62)<=j/\j<2 ^ 62)/\R (Lg i (j-i).toNat) H1
def By{a:aC}{ta:TA}{p:Pos}(hg:Gl X "range")(hm:X.mg "range" = none)(ha:PA X [a] ta)(hs:starEach [a] X.env=[(false,eval a X.env)]:=by rfl):PI X tg (.Call (.Name "range" p) [a] [] pos) (j_ ta):=by
 intro pins s σ H R I h;refine Call_<|oh I hg hm boot_range<|cg (iN (ha pos pins s σ H _ I h) λus m ⟨k,H1,I1,r1,d⟩=>?_) hs rfl;obtain⟨j,e,d,f,q⟩:=d;subst e
 cases r1 with
 | cons r g=>
  cases g
  obtain⟨t,rfl⟩:=r;exact call_range_1<|xU I1 () () d f<|by simpa using q
def BV{a b:aC}{ta:TA}{p:Pos}(hg:Gl X "range")(hm:X.mg "range" = none)(ha:PA X [a,b] ta)(hs:starEach [a,b] X.env=[(false,eval a X.env),(false,eval b X.env)]:=by rfl)(hs2:starEach [b] X.env=[(false,eval b X.env)]:=by rfl) :
  PI X tg (.Call (.Name "range" p) [a,b] [] pos) (qP ta):=by
 intro pins s σ H R I h;refine Call_ (oh I hg hm boot_range<|cg (iN (ha pos pins s σ H _ I h) λus C ⟨B,H1,I1,r1,f⟩=>?_) (by rw[hs,hs2])<|by rw[hs2];rfl);obtain⟨i,j,e,⟨f,g,z,m⟩,q⟩:=f;subst e
 cases r1 with
 | cons r d=>
  cases d with
  | cons k d=>
   cases d
   obtain⟨t,rfl⟩:=r;obtain⟨F,rfl⟩:=k;exact call_range_2<|xU I1 f g z m q
abbrev Mi (wi:TI)(g:TG)(tb:TS):TS:=λD σ H=>wi σ H λJ H1=>∃W:Nat->Nat->St->Hp->Prop,(∃m,W 0 m σ H1)/\∀i m σ H,W i m σ H ->
 (J.stop i H/\D.nx σ H)\/(J.go i H/\∃N:St->Hp->Prop,(∀d H',N d H'->∃m',m'<m/\W (i+1) m' d H')/\∀x H',J.yld i H x H'->g x σ H' λf H2=>tb { D with nx:=N,ct:=N,bk:=D.nx } f H2)
abbrev mX (fp:ba)(h:ak):bn:=fp.filterMap λb=>(h.get? b).map λo=>(b,o)
def ig{fp:ba}{h:ak}{b:aj}(hb:b∈fp)(e:h.get? b=some o):(b,o)∈mX fp h:=List.mem_filterMap.mpr ⟨b,hb,by rw[e];rfl⟩
def Bq{fp:ba}{h:ak}{p:aj×Obj}(hp:p∈mX fp h):p.1∈fp/\h.get? p.1=some p.2:=by
 obtain⟨b,hb,e⟩:=List.mem_filterMap.mp hp
 cases q:h.get? b with
 | none=>rw[q]at e;cases e
 | some o=>
  rw[q]at e;have d:(b,o)=p:=aR e;subst d;exact⟨hb,q⟩
def Inv.pinned{H:Hp}{s:aA}{fp:ba}(I:Inv X pins σ H s)(hf:∀b∈fp,kY X pins H b)(ho:∀b∈fp,∃o,s.heap.get? b=some o/\∀v,o.data≠.cell v):Inv X (pins++mX fp s.heap) σ H s:=
 I.zH λp hp=>(bC.mp hp).elim (λz=>I.pin p<|aP _ z) λz=>by
  obtain⟨hb,e⟩:=Bq z;obtain⟨f0,f1,f2,_⟩:=hf p.1 hb;obtain⟨o,f,d⟩:=ho p.1 hb;rw[e]at f;cases f;exact⟨e,f0,f1,f2,d⟩
def Inv.jt{H:Hp}(I:Inv X (pins++pl) σ H s):Inv X pins σ H s:=I.zH λp hp=>I.pin p<|aP _<|dH _ hp
def Jq{iter:aC}{wi:TI}{g:TG}{tb:TS}(hp:PassesOwn (model X.prog X.w) X.A X.env X.xe)(hc:X.calm=true)(hi:PI X tg iter wi)(hg:PG X tg g)(hb:ve X body tb)
  (hs:∀x,foldedSetIterable iter X.env x=pure x:=by intro _;rfl):PS X (.For tg iter body [] pos) (Mi wi g tb):=by
 kpf_c;refine wpAny_For (iN (hi pins s σ H _ I h) λv s1 h1=>iN h1 λitv s2 h2=>?_) hs;obtain⟨it,fp,tn,J,H2,e,I2,T,Z,f2,W,⟨m0,w0⟩,G⟩:=h2;subst e;have stat:∀{H':Hp},(∀b∈fp,H' b=none)->∀b∈fp,kY X pins H' b:=λhn b hb=>⟨hn b hb,(f2 b hb).2⟩;refine codeAny_forLoop_any (λn s'=>∃i t H',Inv X pins t H' s'/\tn i s'.heap/\(∀b∈fp,H' b=none)/\W i n t H') ?_ m0 ⟨0,σ,H2,I2,Z,λb hb=>(f2 b hb).1,w0⟩;rintro n s3 ⟨i,k,O,I3,M,L,w3⟩
 rcases G i n k O w3 with⟨K,qn⟩|⟨go,N,hN,step⟩
 ·refine cZ hp<|iN (T.done X rfl rfl rfl hc i pins s3 k O X.xe I3 (stat L) M K) λr s4 ⟨V,I4⟩=>?_;subst V;exact e_ ⟨k,O,I4,qn⟩
 ·refine cZ hp<|iN (T.item X rfl rfl rfl hc i pins s3 k O X.xe I3 (stat L) M go) λr s4 ⟨u,V,h4⟩=>?_;subst V;refine cZ hp<|iN h4 λ_ s5 ⟨x,H5,I5,r5,y5,C,Y⟩=>?_;have P:=I5.pinned (stat Y)<|T.obj _ _ C;refine cZ hp<|iN (hg _ s5 k H5 x u _ P r5<|step x H5 y5) λ_ s6 ⟨U,H6,I6,q6⟩=>?_;refine cZ hp<|iN (hb _ s6 U H6 _ I6 q6) λf s7 B=>?_;have z:∀{j:St} {H7:Hp},Inv X (pins++mX fp s5.heap) j H7 s7->N j H7->∃m,m<n/\∃i t H',Inv X pins t H' s7/\tn i s7.heap/\(∀b∈fp,H' b=none)/\W i m t H':=λ{j H7} I7 F=>by
   obtain⟨m',hm,w7⟩:=hN j H7 F;refine⟨m',hm,i+1,j,H7,I7.jt,T.keep _ _ _ C λb hb o e=>(I7.pin (b,o)<|aP _<|aP _<|ig hb e).1,λb hb=>?_,w7⟩;obtain⟨o,e,d⟩:=T.obj _ _ C b hb;exact(I7.pin (b,o)<|aP _<|aP _<|ig hb e).2.1
  cases f with
  | next=>obtain⟨j,H7,I7,F⟩:=B;exact z I7 F
  | cont=>obtain⟨j,H7,I7,F⟩:=B;exact z I7 F
  | brk=>obtain⟨j,H7,I7,B⟩:=B;exact⟨j,H7,I7.jt,B⟩
  | ret v=>obtain⟨x7,j,H7,I7,r7,B⟩:=B;exact⟨x7,j,H7,I7.jt,r7,B⟩
end
def sA{c:TT}{tb:TS}{D:Ends}{H:Hp}(Pv:St->Hp->Prop)(μ:St->Hp->Nat)(h0:Pv σ H)
  (hs:∀σ H,Pv σ H->c σ H λb H1=>if b=true then tb { D with nx:=λσ' H'=>Pv σ' H'/\μ σ' H'<μ σ H,ct:=λσ' H'=>Pv σ' H'/\μ σ' H'<μ σ H,bk:=D.nx } σ H1 else D.nx σ H1)
  (mono:∀σ H Q Q',(∀b H1,Q b H1->Q' b H1)->c σ H Q->c σ H Q'):CY c tb D σ H:=by
 refine⟨λm σ H=>m=μ σ H/\Pv σ H,⟨_,rfl,h0⟩,?_⟩;rintro m σ H ⟨rfl,p⟩;refine mono σ H _ _ (λb H1 q=>?_) (hs σ H p)
 cases b with
 | true=>exact⟨_,λσ' H' ⟨d,l⟩=>⟨_,l,rfl,d⟩,q⟩
 | false=>exact q
meta abbrev R2:=V->V->Hp->VK->Prop
abbrev jZ (X:Cx)(f:aa->aa->Sem aa)(r:R2):Prop:=
 ∀(pins:bn) (s:aA) (σ:St) (H:Hp) (x y:V) (v u:aa) (Q:VK),Inv X pins σ H s->RelV x v->RelV y u->r x y H Q ->
  wpAny (model X.prog X.w) X.A (f v u) (EP X pins σ Q) X.xe s
abbrev Mc (X:Cx)(f:aa->Sem aa)(r:V->Hp->VK->Prop):Prop:=
 ∀(pins:bn) (s:aA) (σ:St) (H:Hp) (x:V) (v:aa) (Q:VK),Inv X pins σ H s->RelV x v->r x H Q ->
  wpAny (model X.prog X.w) X.A (f v) (EP X pins σ Q) X.xe s
abbrev ir (X:Cx)(f:aa)(r:List V->Hp->VK->Prop):Prop:=
 ∀(pins:bn) (s:aA) (σ:St) (H:Hp) (xs:List V) (us:ar) (Q:VK),Inv X pins σ H s->Vals xs us->r xs H Q ->
  wpAny (model X.prog X.w) X.A (call f us) (EP X pins σ Q) X.xe s
abbrev MZ (X:Cx)(r:V->Hp->(Bool->Hp->Prop)->Prop):Prop:=
 ∀(pins:bn) (s:aA) (σ:St) (H:Hp) (x:V) (v:aa) (Q:Bool->Hp->Prop),Inv X pins σ H s->RelV x v->r x H Q ->
  wpAny (model X.prog X.w) X.A (truthy v) (TP X pins σ Q) X.xe s
abbrev LH (r:R2)(ta tb:TE):TE:=λσ H Q=>ta σ H λx H1=>tb σ H1 λy H2=>r x y H2 Q
abbrev N1 (r:V->Hp->VK->Prop)(ta:TE):TE:=λσ H Q=>ta σ H λx H1=>r x H1 Q
abbrev rI (C:Int->Int->Prop)(g:Int->Int->V):R2:=λx y H Q=>∃i j,x=.int i/\y=.int j/\C i j/\Q (g i j) H
abbrev HJ (g:Int->Int->V):R2:=λx y H Q=>∃i j,x=.int i/\y=.int j/\Q (g i j) H
abbrev rU (g:Int->V):V->Hp->VK->Prop:=λx H Q=>∃i,x=.int i/\Q (g i) H
section
variable {X:Cx}{a b:aC}{ta tb:TE}{pos:Pos}
def JM(ha:PE X a ta)(hb:PE X b tb){H:Hp}{R:V->V->Hp->Prop}(I:Inv X pins σ H s)
  (h:ta σ H λx H1=>tb σ H1 λy H2=>R x y H2) {Q:aa->aA->Prop} {f:aa->aa->Sem aa}
  (hf:∀v u s2 x y H2,Inv X pins σ H2 s2->RelV x v->RelV y u->R x y H2->wpAny (model X.prog X.w) X.A (f v u) Q X.xe s2) :
  wpAny (model X.prog X.w) X.A (eval a X.env) (λv s₁=>wpAny (model X.prog X.w) X.A (eval b X.env) (λu s₂=>wpAny (model X.prog X.w) X.A (f v u) Q X.xe s₂) X.xe s₁) X.xe s:=by
 refine iN (ha pins s σ H _ I h) λv k ⟨x,H1,I1,r1,d⟩=>?_;refine iN (hb pins k σ H1 _ I1 d) λu s2 ⟨y,H2,g,r2,j⟩=>?_;exact hf v u s2 x y H2 g r1 r2 j
def Ly{r:R2}(ho:jZ X (binaryOp op) r)(ha:PE X a ta)(hb:PE X b tb):PE X (.BinOp a op b pos) (LH r ta tb):=by
 fin2;exact wpAny_BinOp<|JM ha hb I h λv u f x y H2 d rx ry q=>ho pins f σ H2 x y v u Q d rx ry q
def DU{r:V->Hp->VK->Prop}(ho:Mc X (unaryOp op) r)(ha:PE X a ta):PE X (.UnaryOp op a pos) (N1 r ta):=by
 fin2;exact UnaryOp_<|iN (ha pins s σ H _ I h) λv f ⟨x,H1,I1,r1,d⟩=>ho pins f σ H1 x v Q I1 r1 d
def Mb{f:aa->aa->Sem aa}{C:Int->Int->Prop}{g:Int->Int->Int}
  (rule:∀(i j:Int) (t u:Tok) (s:aA) (Q:aa->aA->Prop) (E:aa->aA->Prop),C i j->Q (.int (g i j) s.toks) { s with toks:=s.toks+1 }->wpAny (model X.prog X.w) X.A (f (.int i t)<|.int j u) Q E s) :
  jZ X f (rI C λi j=>.int<|g i j):=by
 kt_k;obtain⟨i,j,rfl,rfl,hc,q⟩:=h;obtain⟨t,rfl⟩:=rx;obtain⟨d,rfl⟩:=ry;exact rule i j t d s _ _ hc ⟨.int<|g i j,H,I.tok _,⟨_,rfl⟩,q⟩
def KI{f:aa->aa->Sem aa}{g:Int->Int->Int}
  (rule:∀(i j:Int) (t u:Tok) (s:aA) (Q:aa->aA->Prop) (E:aa->aA->Prop),Q (.int (g i j) s.toks) { s with toks:=s.toks+1 }->wpAny (model X.prog X.w) X.A (f (.int i t)<|.int j u) Q E s) :
  jZ X f (HJ λi j=>.int<|g i j):=by
 kt_k;obtain⟨i,j,rfl,rfl,q⟩:=h;obtain⟨t,rfl⟩:=rx;obtain⟨d,rfl⟩:=ry;exact rule i j t d s _ _ ⟨.int<|g i j,H,I.tok _,⟨_,rfl⟩,q⟩
def Gx{f:aa->aa->Sem aa}{g:Int->Int->Bool}
  (rule:∀(i j:Int) (t u:Tok) (s:aA) (Q:aa->aA->Prop) (E:aa->aA->Prop),Q (.bool<|g i j) s->wpAny (model X.prog X.w) X.A (f (.int i t)<|.int j u) Q E s) :
  jZ X f (HJ λi j=>.bl<|g i j):=by
 kt_k;obtain⟨i,j,rfl,rfl,q⟩:=h;obtain⟨t,rfl⟩:=rx;obtain⟨d,rfl⟩:=ry;exact rule i j t d s _ _ ⟨.bl<|g i j,H,I,rfl,q⟩
abbrev MM (i j:Int):Prop:=0<=j/\j<=1000000/\i.natAbs<2 ^ 64
abbrev F3 (i j:Int):Prop:=(-(2 ^ 64)<i/\i<2 ^ 64)\/(-(2 ^ 64)<j/\j<2 ^ 64)
def F3.ok{i j:Int}(h:F3 i j):IntMulOk i j:=by
 rcases h with⟨h1,h2⟩|⟨h1,h2⟩
 ·exact .of_left (intBits_le_64 h1 h2)
 ·exact .of_right<|intBits_le_64 h1 h2
def J_:jZ X (binaryOp .Add) (HJ λi j=>.int<|i+j):=KI λ_ _ _ _ _ _ _ q=>add_int q
def Jl:jZ X (binaryOp .Sub) (HJ λi j=>.int<|i-j):=KI λ_ _ _ _ _ _ _ q=>sub_int q
def Jo:jZ X (binaryOp .Mult) (rI F3 λi j=>.int<|i * j):=Mb λ_ _ _ _ _ _ _ hc q=>mul_int q hc.ok
def J0:jZ X (binaryOp .Mod) (rI (λ_ j=>0<j) λi j=>.int<|i % j):=Mb λi j _ _ _ _ _ hc q=>by
 have h1:(0:Int)<j:=hc;exact mod_int' ()<|by rw[Int.fmod_eq_emod_of_nonneg i ()];exact q
def Jc:jZ X (binaryOp .Pow) (rI MM λi j=>.int<|i ^ j.toNat):=Mb λ_ _ _ _ _ _ _ hc q=>pow_int_small hc.1 hc.2.1 hc.2.2 q
def Oa{f:aa->Sem aa}{g:Int->Int}
  (rule:∀(i:Int) (t:Tok) (s:aA) (Q:aa->aA->Prop) (E:aa->aA->Prop),Q (.int (g i) s.toks) { s with toks:=s.toks+1 }->wpAny (model X.prog X.w) X.A (f<|.int i t) Q E s) :
  Mc X f (rU λi=>.int<|g i):=by
 intro pins s σ H x v Q I rx h;obtain⟨i,rfl,q⟩:=h;obtain⟨t,rfl⟩:=rx;exact rule i t s _ _ ⟨.int<|g i,H,I.tok _,⟨_,rfl⟩,q⟩
def xY:Mc X (unaryOp .USub) (rU λi=>.int<|-i):=Oa λ_ _ _ _ _ q=>neg_int q
end
section
variable {X:Cx}{a b c:aC}{ta tb tc:TE}{pos:Pos}
def JO{H:Hp}{Q:VK}{k:Bool}(I:Inv X pins σ H s)(q:Q (.bl k) H)(e:k=k'):EP X pins σ Q (.bool k') s:=by
 subst e;exact⟨.bl k,H,I,rfl,q⟩
def LX:jZ X (compareOp .Lt) (HJ λi j=>.bl<|decide<|i<j):=Gx λ_ _ _ _ _ _ _ q=>lt_int q
def KH:jZ X (compareOp .LtE) (HJ λi j=>.bl<|decide<|i<=j):=Gx λ_ _ _ _ _ _ _ q=>le_int q
def KO:jZ X (compareOp .Gt) (HJ λi j=>.bl<|decide<|j<i):=Gx λ_ _ _ _ _ _ _ q=>gt_int q
def KS:jZ X (compareOp .GtE) (HJ λi j=>.bl<|decide<|j<=i):=Gx λ_ _ _ _ _ _ _ q=>ge_int q
def Js:jZ X (compareOp .Is) (λx y H Q=>y=.non/\Q (.bl<|decide<|x=.non) H):=by
 kt_k;obtain⟨rfl,q⟩:=h
 cases ry
 refine is_none_gen (JO I q ?_)
 cases x<;>first
  | (cases rx;rfl)
  | (obtain⟨t,rfl⟩:=rx;rfl)
def DX(b:aC)(h:op≠.In:=by decide)(h2:op≠.NotIn:=by decide):behindInMarks op b=false:=by
 have e1:(op == CmpOp.In)=false:=by cases op<;>first|rfl|exact absurd rfl h
 have e2:(op == CmpOp.NotIn)=false:=by cases op<;>first|rfl|exact absurd rfl h2
 cases b<;>simp[behindInMarks,e1,e2]
def Gv{op:CmpOp}{r:R2}(ho:jZ X (compareOp op) r)(ha:PE X a ta)(hb:PE X b tb)(hm:behindInMarks op b=false):PE X (.Compare a [op] [b] pos) (LH r ta tb):=by
 fin2;exact wpAny_Compare1 (JM ha hb I h λv u f x y H2 d rx ry q=>ho pins f σ H2 x y v u Q d rx ry q) hm
abbrev LQ (t:TE):TT:=λσ H Q=>t σ H λx H'=>∃k,x=.bl k/\Q k H'
def FZ{op:CmpOp}{r:R2}(ho:jZ X (compareOp op) r)(ha:PE X a ta)(hb:PE X b tb)(hm:behindInMarks op b=false):PT X (.Compare a [op] [b] pos) (LQ<|LH r ta tb):=by
 fin2;refine wpAny_isTrue_Compare1 (iN (ha pins s σ H _ I h) λv g ⟨x,H1,I1,r1,m⟩=>iN (hb pins g σ H1 _ I1 m) λu j ⟨y,H2,f,r2,d⟩=>
  iN (ho pins j σ H2 x y v u _ f r1 r2 d) λc C ⟨z,B,I3,r3,k,e,t⟩=>?_) hm
 subst e
 cases r3
 exact c6 ⟨B,I3,t⟩
abbrev EO (r r':R2)(ta tb tc:TE):TE:=λσ H Q=>ta σ H λx H1=>tb σ H1 λy H2=>r x y H2 λz d=>∃k,z=.bl k /\
 (if k=true then tc σ d λf g=>r' y f g Q else Q (.bl false) d)
def CK{r r':R2}(ho:jZ X (compareOp op) r)(ho':jZ X (compareOp op') r')(ha:PE X a ta)(hb:PE X b tb)(hc:PE X c tc)
  (hm:lastMarks [op,op'] [b,c]=false:=by with_unfolding_all rfl):PE X (.Compare a [op,op'] [b,c] pos) (EO r r' ta tb tc):=by
 fin2;refine Compare_chain (iN (ha pins s σ H _ I h) λv F ⟨x,H1,I1,r1,K⟩=>chain_link (iN (hb pins F σ H1 _ I1 K) λu G ⟨y,H2,B,r2,m⟩=>
  iN (ho pins G σ H2 x y v u _ B r1 r2 m) λd M ⟨z,g,I3,r3,k,e,f⟩=>?_)) hm
 subst e
 cases r3
 refine c6 ?_
 cases k with
 | false=>exact ite_ff ⟨.bl false,g,I3,rfl,f⟩
 | true=>exact ite_tt<|chain_last<|iN (hc pins M σ g _ I3 f) λt j ⟨N,L,J,O,C⟩=>ho' pins j σ L y N u t Q J r2 O C
abbrev Jb (K:aq)(x:V)(H:Hp)(k:Bool):Prop:=
 match x with
 | .non=>k=false
 | .bl b=>k=b
 | .int i=>k=(i != 0)
 | .str y=>y.length<=sizeLine/\k=((y.length:Int) != 0)
 | .byt y=>y.size<=sizeLine/\k=((y.size:Int) != 0)
 | .ref p=>(∃xs,jh K H p xs/\k=!xs.isEmpty)\/(∃xs,kO K H p xs/\k=!xs.isEmpty)\/∃kvs,H p=some (.dK kvs)/\k=!kvs.isEmpty
 | _=>False
def yu{κ:Type}{kvs:List<|κ×V}{vs:List<|κ×aa}(r:KV kvs vs):(!vs.isEmpty)=!kvs.isEmpty:=by
 cases r<;>rfl
def rZ{xs:List V}{its:ar}(r:Vals xs its):(!its.toArray.isEmpty)=!xs.isEmpty:=by
 cases r<;>simp
def qG:(sizeLine:Nat)<2 ^ 63:=by rw[cG];decide
def JL:MZ X (λx H Q=>∃k,Jb X.K x H k/\Q k H):=by
 intro pins s σ H x v Q I rx h;obtain⟨k,e,q⟩:=h;have F:=qG;have hs:sizeLine=16777216:=cG
 cases x with
 | non=>
  cases rx
  have d:k=false:=e;subst d;exact truthy_none ⟨H,I,q⟩
 | bl b=>
  cases rx
  have d:k=b:=e;subst d;exact c6 ⟨H,I,q⟩
 | int i=>
  obtain⟨t,rfl⟩:=rx;have d:k=(i != 0):=e;subst d;exact PySem.P.truthy_int ⟨H,I,q⟩
 | str y=>
  obtain⟨t,rfl⟩:=rx;obtain⟨hy,d⟩:y.length<=sizeLine/\k=((y.length:Int) != 0):=e;subst d;exact PySem.P.truthy_str () ⟨H,I.tok _,q⟩
 | byt y=>
  obtain⟨t,rfl⟩:=rx;obtain⟨hy,d⟩:y.size<=sizeLine/\k=((y.size:Int) != 0):=e;subst d;exact PySem.W.truthy_bytes () ⟨H,I.tok _,q⟩
 | ref p=>
  cases rx
  have d:(∃xs,jh X.K H p xs/\k=!xs.isEmpty)\/(∃xs,kO X.K H p xs/\k=!xs.isEmpty)\/∃kvs,H p=some (.dK kvs)/\k=!kvs.isEmpty:=e
  rcases d with⟨xs,hx,d⟩|⟨xs,hx,d⟩|⟨kvs,hx,d⟩
  ·subst d;obtain⟨j,r,z,B⟩:=I.list hx;have f:=r.length;exact wpAny_truthy_list z.isList (by dsimp[aU];lia) ⟨H,I.tok _,by rw[rZ r];exact q⟩
  ·subst d;obtain⟨j,r,z,B⟩:=I.tuple hx;have f:=r.length;exact truthy_tuple z (by dsimp[aU];lia) ⟨H,I.tok _,by rw[rZ r];exact q⟩
  ·subst d;obtain⟨B,C,g,r,m⟩:kvs.length<=sizeLine/\(p == sysModules)=false/\∃g,KV kvs g/\s.heap.DictOf (iW X.prog X.w) p g:=I.hok p _ hx;have f:kvs.length=g.length:=fR r;exact wpAny_truthy_dict C m () ⟨H,I.tok _,by rw[yu r];exact q⟩
 | _=>exact(show False from e).elim
def DJ(ha:PE X a ta)(he:∀whole,isTrue a X.env whole=(do let v <- whole;standAt a.pos;holding [v] (truthy v))) :
  PT X a (λσ H Q=>ta σ H λx H'=>∃k,Jb X.K x H' k/\Q k H'):=by
 fin2;exact isTrue_plain (iN (ha pins s σ H _ I h) λv f ⟨x,H1,I1,r1,d⟩=>JL pins f σ H1 x v Q I1 r1 d)<|he _
def yj:jZ X (binaryOp .Add) (λx y H Q=>∃i j,x=.str i/\y=.str j/\i.length+j.length<=sizeLine/\Q (.str<|i++j) H):=by
 kt_k;obtain⟨i,j,rfl,rfl,d,q⟩:=h;obtain⟨t,rfl⟩:=rx;obtain⟨f,rfl⟩:=ry;exact add_str (λf g=>⟨.str<|i++j,H,I.tok _,⟨_,rfl⟩,q⟩) d
def vals1{x:V}(r:Vals [x] us):∃u,us=[u]/\RelV x u:=by
 cases r with
 | cons r1 r2=>cases r2;exact⟨_,rfl,r1⟩
def vals2{x:V}(r:Vals [x,y] us):∃u w',us=[u,w']/\RelV x u/\RelV y w':=by
 cases r with
 | cons r1 r2=>
  cases r2 with
  | cons r3 d=>cases d;exact⟨_,_,rfl,r1,r3⟩
def A8(hc:X.calm=true):ir X (.builtin "max") (λxs H Q=>∃i j,xs=[.int i,.int j]/\Q (.int<|if j>i then j else i) H):=by
 gn_on;obtain⟨i,j,rfl,q⟩:=h;obtain⟨u,f,rfl,⟨t,rfl⟩,⟨m,rfl⟩⟩:=vals2 r;refine max_two_ints (I.ok.hd hc) λh' g k=>⟨_,H,I.kept k,?_,q⟩;by_cases d:j>i
 ·rw[aX d,aX d];exact⟨_,rfl⟩
 ·rw[aZ d,aZ d];exact⟨_,rfl⟩
def Bb(hc:X.calm=true):ir X (.builtin "min") (λxs H Q=>∃i j,xs=[.int i,.int j]/\Q (.int<|if j<i then j else i) H):=by
 gn_on;obtain⟨i,j,rfl,q⟩:=h;obtain⟨u,f,rfl,⟨t,rfl⟩,⟨m,rfl⟩⟩:=vals2 r;refine min_two_ints (I.ok.hd hc) λh' g k=>⟨_,H,I.kept k,?_,q⟩;by_cases d:j<i
 ·rw[aX d,aX d];exact⟨_,rfl⟩
 ·rw[aZ d,aZ d];exact⟨_,rfl⟩
def t8:ir X (.type "int") (λxs H Q=>(∃i,xs=[.int i]/\Q (.int i) H)\/∃k,xs=[.bl k]/\Q (.int<|if k then 1 else 0) H):=by
 gn_on
 rcases h with⟨i,rfl,q⟩|⟨k,rfl,q⟩
 ·obtain⟨u,rfl,t,rfl⟩:=vals1 r;exact call_int_int ⟨.int i,H,I,⟨_,rfl⟩,q⟩
 ·obtain⟨u,rfl,r1⟩:=vals1 r
  cases r1
  exact call_int_bool ⟨.int<|if k then 1 else 0,H,I.tok _,⟨_,rfl⟩,q⟩
abbrev Nq (K:aq)(x:V)(H:Hp)(n:Nat):Prop:=
 match x with
 | .str y=>y.length<=sizeLine/\n=y.length
 | .byt y=>y.size<=sizeLine/\n=y.size
 | .ref p=>(∃xs,jh K H p xs/\n=xs.length)\/∃xs,kO K H p xs/\n=xs.length
 | _=>False
def Dm:ir X (.builtin "len") (λxs H Q=>∃x n,xs=[x]/\Nq X.K x H n/\Q (.int n) H):=by
 gn_on;obtain⟨x,n,rfl,e,q⟩:=h;obtain⟨u,rfl,rx⟩:=vals1 r;have z:=qG;have hs:sizeLine=16777216:=cG
 cases x with
 | str y=>
  obtain⟨t,rfl⟩:=rx;obtain⟨hy,f⟩:y.length<=sizeLine/\n=y.length:=e;subst f;exact len_str () ⟨.int _,H,I.tok _,⟨_,rfl⟩,q⟩
 | byt y=>
  obtain⟨t,rfl⟩:=rx;obtain⟨hy,f⟩:y.size<=sizeLine/\n=y.size:=e;subst f;exact PySem.W.len_bytes () ⟨.int _,H,I.tok _,⟨_,rfl⟩,q⟩
 | ref p=>
  cases rx
  have f:(∃xs,jh X.K H p xs/\n=xs.length)\/∃xs,kO X.K H p xs/\n=xs.length:=e
  rcases f with⟨xs,hx,f⟩|⟨xs,hx,f⟩
  ·subst f;obtain⟨j,g,k,m⟩:=I.list hx;have d:=g.length;exact Calls.call_len_list k.isList (by dsimp[aU];lia) ⟨.int xs.length,H,I.tok _,⟨_,by dsimp[aU];rw[d]⟩,q⟩
  ·subst f;obtain⟨j,g,k,m⟩:=I.tuple hx;have d:=g.length;exact len_tuple k (by dsimp[aU];lia) ⟨.int xs.length,H,I.tok _,⟨_,by dsimp[aU];rw[d]⟩,q⟩
 | _=>exact(show False from e).elim
end
structure ObjM (h:ak)(x dx C:aj)(mA:Str->be):Prop where
 obj:h.get? x=some (PySem.W.instObj C dx)
 ns:h.Ns1 dx mA
 ne:dx≠x
def Bj{h:ak}{mA:Str->be}(n:h.Ns1 dx mA):∃od,h.get? dx=some od/\∀name,PySem.W.lookIn name od=some (mA name):=by
 obtain⟨o,es,k,j,hd,g,_,hm⟩:=n;refine⟨o,j,λname=>?_⟩;have e:=hm name;unfold nsFind findBy at e;rw[<- Array.find?_toList]at e;unfold PySem.W.lookIn;rw[hd];dsimp only;split
 ·rename_i y q;rw[q]at e;exact b_ some e
 ·rename_i q;rw[q]at e;have a:es.toList.any (·.refKey)=false:=by
   rw[List.any_eq_false];intro y hy;obtain⟨z,t,d⟩:=g y<|Array.mem_toList_iff.mp hy;simp[DictEntry.refKey,d]
  have f:¬es.toList.any (·.refKey)=true:=by rw[a];exact bh
  rw[aZ f];exact b_ some e
def ObjM.look{x:aj}{mA:Str->be}(I:ObjM h x dx C mA):∃od,PySem.W.InstAt h x (PySem.W.instObj C dx) C (some od)/\∀name,PySem.W.lookIn name od=some (mA name):=
 let⟨od,ho,hl⟩:=Bj I.ns
 ⟨od,⟨I.obj,rfl,rfl,ho⟩,hl⟩
def sD.some_of{v:V}(r:sD (some v) o):∃u,o=some u/\RelV v u:=by
 cases o with
 | none=>exact(show False from r).elim
 | some u=>exact⟨u,rfl,r⟩
section
variable {P:ah}{w:af}{H:Hp}{h:ak}{a C dx:aj}{fs:List (Str×V)}
def FN(hok:pN P w H h)(e:H a=some (.ins C dx fs)):∃mA,ObjM h a dx C mA/\(∀f,sD (fs.lookup f)<|mA f)/\PySem.Within mA (fs.map (·.1))/\fs.length<=1000/\H dx=some (.own a):=by
 obtain⟨d,z,g,ob,mA,n,r,q⟩:=(show iJ P w H h a (.ins C dx fs)from hok a _ e);exact⟨mA,⟨ob,n,g⟩,r,q,z,d⟩
end
structure Cls (K:aq)(C:aj):Prop where
 pg:PySem.W.plainGet K C Str.empty=true
 hd:PySem.W.hasDictIn K C=true
 po:PySem.W.plainOver K C=true
 sa:PySem.W.findIn K (.ref C) "__setattr__" = some (some<|.builtin "object.__setattr__")
def Cls.get{K:aq}(c:Cls K C)(f:Str):PySem.W.plainGet K C f=true:=c.pg
structure Con (K:aq)(C:aj)(f:Str)(v:V)(u:aa):Prop where
 at_:PySem.W.findIn K (.ref C) f=some (some u)
 rel:RelV v u
 get:PySem.W.specialIn K u "__get__" = some none
 cp:PySem.W.copiedNames.contains f=false
structure Meth (K:aq)(C:aj)(m:Str)(f:aj):Prop where
 at_:PySem.W.findIn K (.ref C) m=some (some<|.ref f)
 fn:PySem.W.isFn K (.ref f)=true
 kp:PySem.W.keepIn K (.ref f)=true
section
variable {X:Cx}{pins:bn}{σ:St}{H:Hp}{s:aA}{A:au}{E:aa->aA->Prop}{Q:aa->aA->Prop}{c:aa}{b:Bool}
inductive TyOf (K:aq) (H:Hp):V->aa->Prop where
 | non:TyOf K H .non (.type "NoneType")
 | bl (x:Bool):TyOf K H (.bl x) (.type "bool")
 | int (i:Int):TyOf K H (.int i) (.type "int")
 | str (x:Str):TyOf K H (.str x) (.type "str")
 | flt (x:UInt64):TyOf K H (.flt x) (.type "float")
 | lst {a:aj} {xs:List V} (e:H a=some (.lst xs)):TyOf K H (.ref a) (.type "list")
 | frz {a:aj} {o:Obj} {xs:List V} (e:H a=some (.frz o<|.lst xs)):TyOf K H (.ref a) (.type "list")
 | tup {a:aj} {xs:List V} (e:H a=some (.tup xs)):TyOf K H (.ref a) (.type "tuple")
 | dK {a:aj} {kvs:List<|Key×V} (e:H a=some (.dK kvs)):TyOf K H (.ref a) (.type "dict")
 | dT {a:aj} {kvs:List<|List Key×V} (e:H a=some (.dT kvs)):TyOf K H (.ref a) (.type "dict")
 | ins {a C dx:aj} {fs:List<|Str×V} (e:H a=some (.ins C dx fs)) (cl:Cls K C) (ha:PySem.W.findIn K (.ref C) "__class__" = some (some<|.builtin "object.__class__"))
   (hn:PySem.W.specialIn K (.builtin "object.__class__") "__get__" = some (some<|.builtin "getset_descriptor.__get__")) (htk:PySem.W.takesIn K (.builtin "object.__class__")=some true)
   (hm:PySem.W.mroIn K C (.type "object")=some true):TyOf K H (.ref a)<|.ref C
def BL{x:V}(I:Inv X pins σ H s)(rx:RelV x u)(ty:TyOf X.K H x t)(e:PySem.W.kitOne X.K t c=some b)(h:∀tk,Q (.bool b) { s with toks:=tk }) :
  wpAny (model X.prog X.w) A (call (.builtin "isinstance") [u,c]) Q E s:=by
 cases ty with
 | non=>cases(show u=Value.none from rx);exact b7 PySem.W.kitx_none I.vI True.intro e (λz=>nomatch z) h
 | bl y=>cases(show u=Value.bool y from rx);exact b7 PySem.W.kitx_bool I.vI True.intro e (λz=>nomatch z) h
 | int i=>obtain⟨t,q⟩:=(show ∃t,u=Value.int i t from rx);cases q;exact b7 PySem.W.kitx_int I.vI True.intro e (λz=>nomatch z) h
 | str y=>obtain⟨t,q⟩:=(show ∃t,u=Value.str y t from rx);cases q;exact b7 PySem.W.kitx_str I.vI True.intro e (λz=>nomatch z) h
 | flt y=>obtain⟨t,q⟩:=(show ∃t,u=Value.float y t from rx);cases q;exact b7 PySem.W.kitx_float I.vI True.intro e (λz=>nomatch z) h
 | @lst a xs d=>
  cases(show u=Value.ref a from rx)
  obtain⟨_,_,n,_,h1⟩:=(show iJ X.prog X.w H s.heap a (.lst xs)from I.hok a _ d);exact b7 PySem.W.kitx_list I.vI ⟨_,h1,rfl⟩ e (λz=>nomatch z) h
 | @frz a ob xs d=>
  cases(show u=Value.ref a from rx)
  obtain⟨_,_,_,n,_,h1⟩:=(show iJ X.prog X.w H s.heap a (.frz ob<|.lst xs)from I.hok a _ d);exact b7 PySem.W.kitx_list I.vI ⟨_,h1,rfl⟩ e (λz=>nomatch z) h
 | @tup a xs d=>
  cases(show u=Value.ref a from rx)
  obtain⟨_,_,_,p⟩:=(show iJ X.prog X.w H s.heap a (.tup xs)from I.hok a _ d);obtain⟨o,h1,h2,_⟩:=p;exact b7 PySem.W.kitx_tuple I.vI ⟨o,h1,h2⟩ e (λz=>nomatch z) h
 | @dK a kvs d=>
  cases(show u=Value.ref a from rx)
  obtain⟨_,_,m,_,p⟩:=(show iJ X.prog X.w H s.heap a (.dK kvs)from I.hok a _ d);obtain⟨o,es,k,h1,h2,_⟩:=p;exact b7 PySem.W.kitx_dict I.vI ⟨o,h1,h2.1⟩ e (λz=>nomatch z) h
 | @dT a kvs d=>
  cases(show u=Value.ref a from rx)
  obtain⟨_,_,xs,_,o,es,k,h1,h2,_⟩:=(show iJ X.prog X.w H s.heap a (.dT kvs)from I.hok a _ d);exact b7 PySem.W.kitx_dict I.vI ⟨o,h1,h2.1⟩ e (λz=>nomatch z) h
 | @ins a C dx fs d g j hn f hm=>
  cases(show u=Value.ref a from rx)
  obtain⟨F,O,_⟩:=FN I.hok d;obtain⟨B,J,_⟩:=O.look;exact b7 (PySem.W.kitx_own (g.get _) g.hd j hn f hm) I.vI J e (λz=>nomatch z) h
end
structure Room (k:Nat)(A:au):Prop where
 hd:A.handled=none
 dp:A.depth+3 * k+5<recursionLimit
 un:A.units+16 * k+200<cLine
def Room.mono{k:Nat}{A:au}(r:Room k A)(h:j<=k):Room j A:=⟨r.hd,by have:=r.dp;lia,by have:=r.un;lia⟩
def Room.deeper{k:Nat}{A:au}(r:Room (k+1) A)(env:Env):Room k (A.deeper env):=
 ⟨r.hd,by have:=r.dp;show A.depth+1+3 * k+5<_;lia,by have:=r.un;show A.units+3+16 * k+200<_;lia⟩
def Room.depth{k:Nat}{A:au}(r:Room k A):A.depth<recursionLimit:=by have:=r.dp;lia
def Room.units{k:Nat}{A:au}(r:Room k A):A.units+64<cLine:=by have:=r.un;lia
abbrev MV:TA:=λ_ H Q=>Q [] H
abbrev Li (ta:TE)(tr:TA):TA:=λσ H Q=>ta σ H λx H1=>tr σ H1 λxs H2=>Q (x::xs) H2
section
variable {X:Cx}{e:aC}{es:List aC}{te:TE}{t:TA}{pos:Pos}
def qC:PA X [] MV:=λ_ _ _ _ H Q I h=>Calls.spliced_nil ⟨[],H,I,.nil,h⟩
def jT(ha:PE X e te)(hr:PA X es t)(hs:starEach (e::es) X.env=(false,eval e X.env)::starEach es X.env:=by rfl):PA X (e::es) (Li te t):=by
 intro pos pins s σ H Q I h;rw[hs]
 skip
 refine Calls.spliced_cons<|iN (ha pins s σ H _ I h) λu g ⟨x,H1,I1,r1,j⟩=>?_;exact iN (hr pos pins g σ H1 _ I1 j) λus k ⟨xs,H2,f,r2,d⟩=>⟨x::xs,H2,f,.cons r1 r2,d⟩
abbrev Nj (t:TA):TE:=λσ H Q=>t σ H λxs H1=>xs.length<=sizeLine/\∀p,H1 p=none->Q (.ref p) (upd H1 p<|.tup xs)
abbrev MF (t:TA):TE:=λσ H Q=>t σ H λxs H1=>xs.length<=sizeLine/\∀p,H1 p=none->Q (.ref p) (upd H1 p<|.lst xs)
def IL{x1}(h:PA X es t):PE X (.Tuple es x1 pos) (Nj t):=by
 intro pins s σ H Q I f;refine wpAny_Tuple_spliced (iN (h pos pins s σ H _ I f) λus d ⟨xs,H1,I1,r,z,q⟩=>⟨by rw[<- r.length];exact z,?_⟩);have hf:H1 d.heap.objs.size=none:=I1.hok.fresh<|aN _;refine⟨.ref d.heap.objs.size,upd H1 d.heap.objs.size<|.tup xs,I1.laid (t':=d.toks) (λb u e=>aW _ e) (aN _) ?_,rfl,q _ hf⟩;exact⟨z,us,r,⟨_,bR _ rfl,rfl,rfl,_,rfl⟩⟩
def Ko(h:PA X es t):PE X (.List es pos) (MF t):=by
 intro pins s σ H Q I f;refine wpAny_List_spliced (iN (h pos pins s σ H _ I f) λus d ⟨xs,H1,I1,r,z,q⟩=>⟨by rw[<- r.length];exact z,?_⟩);have hf:H1 d.heap.objs.size=none:=I1.hok.fresh<|aN _;refine⟨.ref d.heap.objs.size,upd H1 d.heap.objs.size<|.lst xs,I1.laid (t':=d.toks) (λb u e=>aW _ e) (aN _) ?_,rfl,q _ hf⟩;exact⟨z,us,0,r,bR _ rfl⟩
end
meta abbrev Sp:=List V->Hp->VK->XK->Prop
meta abbrev FG:=List Env->Hp->aA->XK->aa->aA->Prop
structure Env0 (P:ah)(w:af)(K:aq)(mg:Str->be)(base:ak)(A:au)(outer:List Env)(s:aA)(H:Hp):Prop where
 frames:A.frames=some outer
 mod:Mod K mg base
 bs:∀b o,base.get? b=some o->s.heap.get? b=some o/\H b=none
 bsz:base.objs.size<=s.heap.objs.size
 sM:s.heap.FunFrames base outer
 frf:∀b∈frs outer,H b=none
 hok:pN P w H s.heap
 bare:AllBare s.gens
abbrev CE (outer:List Env)(P:ah)(w:af)(H:Hp)(s:aA)(Q:VK)(u:aa)(s':aA):Prop:=
 ∃v H',s'.os=s.os/\AllBare s'.gens/\Un (frs outer) [] H H' s.heap s'.heap/\pN P w H' s'.heap/\RelV v u/\Q v H'
abbrev CR (CX:FG)(outer:List Env)(P:ah)(w:af)(H:Hp)(s:aA)(Q:VK)(E:XK)(r:Result)(s':aA):Prop:=
 match r with
 | .ok (.ret u)=>CE outer P w H s Q u s'
 | .ok _=>False
 | .error e=>CX outer H s E e s'
structure FnOk (P:ah)(w:af)(K:aq)(mg:Str->be)(base:ak)(CX:FG)(k:Nat)(f:aj)(fd:FuncData)(ps:ap)(sp:Sp):Prop where
 len:∀vs H Q E,sp vs H Q E->vs.length=ps.length
 run:∀(A:au) (outer:List Env) (s:aA) (H:Hp) (args:Args) (us:ar) (vs:List V) (Q:VK) (E:XK),Room k A->Env0 P w K mg base A outer s H->BindsTo s fd args (ps.zip us)->Vals vs us->sp vs H Q E ->
  codeAny (model P w) A (.call (.ref f) args) (CR CX outer P w H s Q E) s
section
variable {X:Cx}{pins:bn}{σ:St}{H:Hp}{s s':aA}
def Inv.Nm(I:Inv X pins σ H s):Env0 X.prog X.w X.K X.mg X.base X.A X.stack s H:=
 ⟨I.ok.frames,I.ok.mod,I.bs,b6 I.ok.bsz I.sz,I.stack,I.z8,I.hok,I.bare⟩
def Inv.after{Q:VK}(I:Inv X pins σ H s)(h:CE X.stack X.prog X.w H s Q u s'):EP X pins σ Q u s':=by
 obtain⟨v,H',os,bare,un,hok,r,q⟩:=h;obtain⟨j,g,d,t,f⟩:=s';obtain rfl:f=s.os:=os;exact⟨v,H',I.call (h':=j) (g':=g) (d':=d) (t':=t) (ch:=[]) un hok bare λb z=>absurd z<|by simp,r,q⟩
end
abbrev G6 (sp:Sp)(dvs:List V)(E:XK)(t:TA):TE:=λσ H Q=>t σ H λd H1=>sp (d++dvs) H1 Q E
abbrev Binds (K:aq)(fd:FuncData)(ps:ap)(ds:ar):Prop:=
 ∀(s:aA) (us:ar),K.In s.heap->(us++ds).length=ps.length->BindsTo s fd ⟨us,[]⟩ (ps.zip<|us++ds)
def Binds.all{K:aq}{ps:ap}(h:∀us:ar,us.length=ps.length->bindArgs fd ⟨us,[]⟩=pure (ps.zip us)):Binds K fd ps []:=λs us _ d=>by
 rw[bZ]at d ⊢;exact .of_eq<|h us d
abbrev Passes (CX:FG)(X:Cx)(E:XK):Prop:=∀(pins:bn) (σ:St) (H:Hp) (s:aA) (e:aa) (s':aA),Inv X pins σ H s->CX X.stack H s E e s'->X.xe e s'
section
variable {X:Cx}{CX:FG}{k:Nat}{f C:aj}{fd:FuncData}{ps:ap}{sp:Sp}{dvs:List V}{ds:ar}{E:XK}{x:Str}{p pos:Pos}{e:aC}{es:List aC}{t:TA}
def Io{H:Hp}{Q:VK}(F:FnOk X.prog X.w X.K X.mg X.base CX k f fd ps sp)(hr:Room k X.A)(hb:Binds X.K fd ps ds)(hd:Vals dvs ds)(hx:Passes CX X E)
  (I:Inv X pins σ H s) (r:Vals vs us) (h:sp (vs++dvs) H Q E):wpAny (model X.prog X.w) X.A (call (.ref f) us) (EP X pins σ Q) X.xe s:=by
 have r2:Vals (vs++dvs) (us++ds):=r.append hd;have g:(us++ds).length=ps.length:=by rw[<- r2.length];exact F.len _ _ _ _ h
 refine wpAny_call (fD (F.run X.A X.stack s H ⟨us,[]⟩ (us++ds) (vs++dvs) Q E hr I.Nm (hb s us I.vI g) r2 h) λr s' d=>?_)
 cases r with
 | error e=>exact hx pins σ H s e s' I d
 | ok fl=>
  cases fl with
  | ret u=>exact I.after d
  | next=>exact False.elim d
  | brk=>exact False.elim d
  | cont=>exact False.elim d
def FU(F:FnOk X.prog X.w X.K X.mg X.base CX k f fd ps sp)(hr:Room k X.A)(hg:Gl X x)(hm:X.mg x=some (.ref f))(hk:PySem.W.keepIn X.K (.ref f)=true)(hb:Binds X.K fd ps ds)(hd:Vals dvs ds)(hx:Passes CX X E)
  (ha:PA X (e::es) t) (hdb:(x == ("__debug__" : Str))=false:=by decide) (he:starEach (e::es) X.env=(false,eval e X.env)::starEach es X.env:=by rfl) (hpl:(backTo pos<|starEach es X.env).any (·.1)=false:=by rfl) :
  PE X (.Call (.Name x p) (e::es) [] pos) (G6 sp dvs E t):=by
 fin2;refine fG<|Ag I hg hm ?_ hdb;refine PySem.W.callWith_K (h₀:=X.base) I.ok.mod.kin hk (iN (ha pos pins s σ H _ I h) λus g ⟨d,H1,I1,r,q⟩=>⟨I1.vI,?_⟩) he hpl;exact Io F hr hb hd hx I1 r q
structure Mk (K:aq)(C f:aj):Prop where
 makes:PySem.W.makesIn K C=true
 init:PySem.W.findIn K (.ref C) "__init__" = some (some<|.ref f)
 fn:PySem.W.isFn K (.ref f)=true
 kp:PySem.W.keepIn K (.ref C)=true
end
section
variable {fd:FuncData}{ps ks:ap}
structure KBinds (K:aq)(fd:FuncData)(ps ks:ap)(g:ar->ar->ar)(gV:List V->List V->List V):Prop where
 to:∀(s:aA) (us ws:ar),K.In s.heap->(g us ws).length=ps.length->BindsTo s fd ⟨us,ks.zip ws⟩ (ps.zip<|g us ws)
 rel:∀{vs:List V} {us:ar} {zs:List V} {ws:ar},Vals vs us->Vals zs ws->Vals (gV vs zs) (g us ws)
end
structure FnScope (N P:ap)(sc:Scope):Prop where
 kind:sc.kind=.function
 co:sc.isCoroutine=false
 gen:sc.isGenerator=false
 nd:N.Nodup
 pre:N.take P.length=P
 par:∀x∈P,sc.names.lookup x=some .local\/sc.names.lookup x=some .cell
 nofree:∀y∈sc.names,y.2≠.free
theorem t9{kindOf:Str->Option NameKind}{x:Str}:∀{binds:List<|Str×aa}{m:Str->be},(∀v,(x,v)∉binds)->bindL kindOf binds m x=m x
 | [],_,_=>rfl
 | (n,v)::r,m,h=>by
  unfold bindL;rw[t9 λw hw=>h w<|aK _ hw];split
  ·have:x≠n:=by rintro rfl;exact h v aY
   simp[this]
  ·rfl
theorem ue{kindOf:Str->Option NameKind}{x:Str}:∀{binds:List<|Str×aa}{m:Str->be},(∀v,(x,v)∉binds)->bindC kindOf binds m x=m x
 | [],_,_=>rfl
 | (n,v)::r,m,h=>by
  unfold bindC;rw[ue λw hw=>h w<|aK _ hw];split
  ·rfl
  ·have:x≠n:=by rintro rfl;exact h v aY
   simp[this]
theorem t_{kindOf:Str->Option NameKind}{x:Str}{v:aa}:∀{P:ap}{vs:ar}{i:Nat}{m:Str->be},P.Nodup->P[i]?=some x->vs[i]?=some v->kindOf x=some .local ->
  bindL kindOf (P.zip vs) m x=some v
 | [],_,_,_,_,h,_,_=>by simp at h
 | _::_,[],_,_,_,_,h,_=>by simp at h
 | p::P,w::vs,0,m,nd,h1,h2,hk=>by
  simp at h1 h2;subst h1;subst h2;show bindL kindOf ((p,w)::P.zip vs) m p=_;unfold bindL;rw[t9 λv hv=>(bD.mp nd).1 (f9 hv).1,aX hk];simp
 | p::P,w::vs,i+1,m,nd,h1,h2,hk=>by
  skip
  unfold bindL;exact t_ (i:=i) (bD.mp nd).2 (by simpa using h1) (by simpa using h2) hk
theorem uC{kindOf:Str->Option NameKind}{x:Str}{v:aa}:∀{P:ap}{vs:ar}{i:Nat}{m:Str->be},P.Nodup->P[i]?=some x->vs[i]?=some v->kindOf x≠some .local ->
  bindC kindOf (P.zip vs) m x=some v
 | [],_,_,_,_,h,_,_=>by simp at h
 | _::_,[],_,_,_,_,h,_=>by simp at h
 | p::P,w::vs,0,m,nd,h1,h2,hk=>by
  simp at h1 h2;subst h1;subst h2;show bindC kindOf ((p,w)::P.zip vs) m p=_;unfold bindC;rw[ue λv hv=>(bD.mp nd).1 (f9 hv).1,aZ hk];simp
 | p::P,w::vs,i+1,m,nd,h1,h2,hk=>by
  skip
  unfold bindC;exact uC (i:=i) (bD.mp nd).2 (by simpa using h1) (by simpa using h2) hk
abbrev start (N:ap)(vs:List V):St:=vs.map some++List.replicate (N.length-vs.length) none
abbrev yE (CX:FG)(P:ah)(w:af)(K:aq)(mg:Str->be)(base:ak)(N:ap)(qual:Str)(scope:Scope)(f:aj)(cd:aa)(A:au)(outer:List Env)(s:aA)(H:Hp)(E:XK):Cx where
 prog:=P
 w:=w
 K:=K
 mg:=mg
 base:=base
 A:=A.deeper (envOfC qual scope s.heap.objs.size f cd)
 N:=N
 s₀:=s
 H₀:=H
 env:=envOfC qual scope s.heap.objs.size f cd
 outer:=outer
 stack:=envOfC qual scope s.heap.objs.size f cd::outer
 ex:=[]
 calm:=true
 fn:=λ_=>true
 pn:=[]
 xe:=λe s'=>wpAny (model P w) (A.deeper<|envOfC qual scope s.heap.objs.size f cd) (leaving (envOfC qual scope s.heap.objs.size f cd) e) (λ_ d=>CX outer H s E e d) (λg d=>CX outer H s E g d) s'
def vX{sc:Scope}{n:Nat}{x:Str}(h:sc.names.lookup x=some .cell):∃c,(cellsFrom n sc.names []).lookup x=some c:=by
 have q:=dz sc.names n []<|.inl h;exact c9.mp q
def Bp{CX:FG}{P:ah}{w:af}{K:aq}{mg:Str->be}{base:ak}{N ps:ap}{scope:Scope}{f:aj}{A:au}{outer:List Env}{s:aA}{H:Hp}{E:XK}{vs:List V}
  (S:FnScope N ps scope) (hd:A.handled=none) (e0:Env0 P w K mg base A outer s H) (hl:vs.length=ps.length) (r:Vals vs us)
  (x:InCallC s s.heap.objs.size (bindL (envOfC qual scope s.heap.objs.size f cd).kindOf (ps.zip us) λ_=>none) (cellsFrom (s.heap.objs.size+1) scope.names []) (bindC (envOfC qual scope s.heap.objs.size f cd).kindOf (ps.zip us) λ_=>none) s1) :
  Inv (yE CX P w K mg base N qual scope f cd A outer s H E) [] (start N vs) H s1:=by
 have B:ps.length<=N.length:=by have:=b_ List.length S.pre;rw[dQ]at this;lia
 obtain⟨h1,J,rfl,m⟩:=x.done;have d:∀b:aj,b∉(yE CX P w K mg base N qual scope f cd A outer s H E).ex:=λb z=>absurd (show b∈([]:ba)from z) (by simp);refine⟨⟨e0.mod,S.kind,rfl,rfl,aN _,λy z c h1 h2=>?_,λy hy=>?_,λy c _ h=>?_,λ_=>hd,Around.frames_deeper e0.frames,.inr ⟨rfl,rfl⟩,λb z=>absurd z<|d b,e0.bs,e0.bsz,λb _ _=>d b,λb z=>absurd z<|d b,e0.sM,e0.frf⟩,
  rfl,e0.bare,Un.kept m,⟨_,x.toInCall.ns,λi y v h1 h2 G=>?_⟩,λy c h=>⟨_,x.cell y c h⟩,e0.hok.fresh<|aN _,λy c h=>?_,λp hp=>absurd (show p∈([]:bn)from hp)<|by simp,e0.hok.kept m,?_⟩
 ·exact name_of_addr x.apart (b9 h1) (b9 h2)
 ·have hy:scope.names.lookup y=some .cell\/scope.names.lookup y=some .free:=hy
  rcases hy with hy|hy
  ·exact vX hy
  ·exact absurd rfl<|S.nofree _<|b9 hy
 ·exact cE (x.above y c<|b9 h)
 ·have j:i<vs.length:=by
   unfold start at h2;by_cases j:i<vs.length
   ·exact j
   ·rw[bT<|by simpa using j]at h2;rw[dh]at h2;split at h2<;>cases h2
  have C:vs[i]?=some v:=by
   unfold start at h2;rw[aO<|by simpa using j,aS]at h2
   cases e:vs[i]? with
   | none=>rw[e]at h2;cases h2
   | some a=>rw[e]at h2;cases h2;rfl
  obtain⟨u,t,F⟩:=r.get C;have hp:ps[i]?=some y:=by
   rw[<- S.pre,dY ()];exact h1
  have g:ps.Nodup:=by rw[<- S.pre];exact S.nd.sublist (List.take_sublist _ _)
  refine⟨u,F,?_⟩
  rcases S.par y (bf hp)with k|k
  ·exact .inl ⟨k,t_ g hp t k⟩
  ·obtain⟨c,e⟩:=vX (n:=s.heap.objs.size+1) k;refine .inr ⟨.inl k,c,e,?_⟩;have q:=x.cell y c e;rw[uC g hp t<|by show scope.names.lookup y≠_;rw[k];decide]at q;exact q
 ·exact e0.hok.fresh (cE<|x.above y c<|b9 h)
 ·unfold start;show _=N.length;rw[aM,aH,cU]
  lia
def LZ{CX:FG}{P:ah}{w:af}{K:aq}{mg:Str->be}{base:ak}{k:Nat}{f:aj}{kV pm ct:aa}
  {osl:Array<|be} {N ps:ap} {sp:Sp} (lk:K.lookup f=some ⟨oc,od,.func<|PySem.W.fnOf name qual params body scope dV kV doc pm an cdv ct,osl⟩) (hcd:PySem.W.codeIn K cdv qual=true) (S:FnScope N ps scope)
  (len:∀vs H Q E,sp vs H Q E->vs.length=ps.length)
  (hbody:∀(A:au) (outer:List Env) (s:aA) (H:Hp) (vs:List V) (Q:VK) (E:XK),Room k (A.deeper<|envOfC qual scope s.heap.objs.size f cdv)->sp vs H Q E ->
   ∃t,ve (yE CX P w K mg base N qual scope f cdv A outer s H E) body t/\t { nx:=λ_ H'=>Q .non H',rt:=Q } (start N vs) H) :
  FnOk P w K mg base CX (k+1) f (PySem.W.fnOf name qual params body scope dV kV doc pm an cdv ct) ps sp:=by
 refine⟨len,λA outer s H G us vs Q E C e0 hb r m=>?_⟩;have M:=len _ _ _ _ m;have L:K.In s.heap:=e0.mod.kin.keeps λb o e=>(e0.bs b o e).1;have z:s.heap.NoLimit:=e0.mod.nolimit.keeps λb o e=>(e0.bs b o e).1;have g:∀y∈ps.zip us,scope.names.lookup y.1=some .local\/(scope.names.lookup y.1=some .cell/\((cellsFrom (s.heap.objs.size+1) scope.names []).lookup y.1).isSome=true):=λ⟨n,v⟩ hy=>by
  rcases S.par n (f9 hy).1 with q|q
  ·exact .inl q
  ·exact .inr ⟨q,dz _ _ _<|.inl q⟩
 refine codeAny_call_function C.depth (L _ _ lk) rfl S.co S.gen rfl (PySem.W.codeRec_of L hcd)<|hb _ _ _ _ ?_;refine wpAny_newFunctionEnv_cells S.kind g λenv U F x=>?_;subst U;refine⟨z.keeps x.toInCall.keep,codeAny_func ?_⟩;obtain⟨t,O,Y⟩:=hbody A outer s H vs Q E (C.deeper _) m;have I:Inv (yE CX P w K mg base N qual scope f cdv A outer s H E) [] (start N vs) H F:=Bp S C.hd e0 M r x;refine cS (O [] F (start N vs) H _ I Y) (λfl s' hs=>?_) λe s' hs=>hs;have j:∀{d:St} {H':Hp} {v:V} {u:aa},Inv (yE CX P w K mg base N qual scope f cdv A outer s H E) [] d H' s'->RelV v u->Q v H'->CE outer P w H s Q u s':=
  λ{d H' v u} J B q=>⟨v,H',J.os,J.bare,J.base,J.hok,B,q⟩
 cases fl with
 | ret u=>
  obtain⟨v,d,H',J,B,q⟩:=hs;exact j J B q
 | next=>
  obtain⟨d,H',J,q⟩:=hs;exact j (v:=V.non) (u:=Value.none) J rfl q
 | brk=>
  obtain⟨_,_,_,q⟩:=hs;exact False.elim q
 | cont=>
  obtain⟨_,_,_,q⟩:=hs;exact False.elim q
section
variable {X:Cx}{x:Str}{p pos:Pos}{e:aC}{es:List aC}{t:TA}{id T:String}{r:List V->Hp->VK->Prop}
abbrev MN (r:List V->Hp->VK->Prop)(t:TA):TE:=λσ H Q=>t σ H λd H1=>r d H1 Q
def E2(hc:ir X (.builtin id) r)(hg:Gl X x)(hm:X.mg x=none)(hv:bootBuiltins x=some (.builtin id))(ha:PA X (e::es) t)(hn:x ≠ "__name__" := by decide)(hdb:(x == ("__debug__" : Str))=false:=by decide)
  (he:starEach (e::es) X.env=(false,eval e X.env)::starEach es X.env:=by rfl) (hpl:(backTo pos<|starEach es X.env).any (·.1)=false:=by rfl):PE X (.Call (.Name x p) (e::es) [] pos) (MN r t):=by
 fin2;refine fG<|oh I hg hm hv ?_ hn hdb;exact PyProof.Rows.callWith_builtin1 (iN (ha pos pins s σ H _ I h) λus g ⟨f,H1,I1,r1,d⟩=>hc pins g σ H1 f us Q I1 r1 d) he hpl
def BY(hc:ir X (.type T) r)(hg:Gl X x)(hm:X.mg x=none)(hv:bootBuiltins x=some (.type T))(ha:PA X (e::es) t)(hn:x ≠ "__name__" := by decide)(hdb:(x == ("__debug__" : Str))=false:=by decide)
  (he:starEach (e::es) X.env=(false,eval e X.env)::starEach es X.env:=by rfl) (hpl:(backTo pos<|starEach es X.env).any (·.1)=false:=by rfl):PE X (.Call (.Name x p) (e::es) [] pos) (MN r t):=by
 fin2;refine fG<|oh I hg hm hv ?_ hn hdb;exact cg (iN (ha pos pins s σ H _ I h) λus g ⟨f,H1,I1,r1,d⟩=>hc pins g σ H1 f us Q I1 r1 d) he hpl
end
end L2
namespace HT
open PySem PyProof.Rows
section
variable {prog:ah}{w:af}{A:au}{E:aa->aA->Prop}{s:aA}
def GH{vs ws:ar}{Q:aa->aA->Prop}(ht:IsTup s.heap t vs.toArray)(hb:IsTup s.heap b ws.toArray)(hv:vs≠[])
  (h1:ws=[]->Q (.ref t) s) (h2:ws≠[]->Q (.ref s.heap.objs.size) { s with heap:=s.heap.push { cls:=.type "tuple",data:=.seq (vs++ws).toArray }})
  (hsz:vs.length+ws.length<=sizeLine):wpAny (model prog w) A (binaryOp .Add (.ref t)<|.ref b) Q E s:=by
 obtain⟨⟨cls,C,data,F⟩,m,hc,n,hd⟩:=id ht;obtain⟨⟨B,g,z,j⟩,d,k,G,f⟩:=id hb;simp only at hc hd k f;subst hc hd k f;have e:vs.toArray++ws.toArray=(vs++ws).toArray:=by simp
 by_cases hw:ws=[]
 ·exact concat_meets ⟨_,m,rfl⟩ ⟨_,d,rfl⟩ noFill_tuple_add seq_tuple_add eo eg (dZ _ _)
   (tuple_addW1 t b vs.toArray ws.toArray n G C g F j (by simpa using hv)<|by simp[hw]) ⟨m,d,h1 hw⟩
 ·refine concat_meets ⟨_,m,rfl⟩ ⟨_,d,rfl⟩ noFill_tuple_add seq_tuple_add eo eg (dZ _ _)
   (tuple_addW2 t b vs.toArray ws.toArray n G C g F j (by simpa using hv) (by simpa using hw)<|by rw[aU,aU];exact hsz) ⟨m,d,?_⟩
  rw[e];exact h2 hw
abbrev Lz (n d:Nat):Option Int->Nat
 | none=>d
 | some v=>if v<0 then(v+(n:Int)).toNat else min v.toNat n
end
end HT
namespace L2
open PySem PySem.Spec PyProof.Rows
meta abbrev TO:=St->Hp->(Option Int->Hp->Prop)->Prop
def intsAre_of{ns:ag}:∀{us:ar},Vals (ns.map V.int) us->IntsAre us ns:=by
 induction ns with
 | nil=>intro us r;rw[cK]at r;cases r;exact .nil
 | cons n ns d=>
  intro us r;rw[bH]at r
  cases r with
  | cons r1 r2=>
   obtain⟨t,e⟩:=r1;subst e;exact .cons n t<|d r2
section
variable {X:Cx}{p2:Pos}
abbrev K7 (K:aq):R2:=λx y H Q=>∃a b xs ys,x=.ref a/\y=.ref b/\kO K H a xs/\kO K H b ys/\xs≠[]/\xs.length+ys.length<=sizeLine /\
 (ys=[]->Q (.ref a) H)/\(ys≠[]->∀p,H p=none->Q (.ref p) (upd H p<|.tup<|xs++ys))
def Vals.vq(r:Vals xs us):us=[] ↔ xs=[]:=by
 cases r with
 | nil=>simp
 | cons _ _=>simp
def Gi:jZ X (binaryOp .Add) (K7 X.K):=by
 kt_k;obtain⟨a,b,xs,ys,rfl,rfl,j,hb,hx,f,m,g⟩:=h
 cases rx
 cases ry
 obtain⟨k,r1,p1,_⟩:=I.tuple j;obtain⟨d,r2,p2,_⟩:=I.tuple hb;refine HT.GH p1 p2 (λz=>hx<|r1.vq.mp z) (λz=>⟨.ref a,H,I,rfl,m<|r2.vq.mp z⟩) (λz=>?_) (by rw[<- r1.length,<- r2.length];exact f);refine⟨.ref s.heap.objs.size,_,I.laid (t':=s.toks) (o:=.tup<|xs++ys) (λb ob q=>aW _ q) (aN _) ?_,rfl,g (λw=>z<|r2.vq.mpr w) _<|I.hok.fresh<|aN _⟩;exact⟨by rw[aM];exact f,_,r1.append r2,l8.new _ _⟩
end
abbrev uB (n:Nat)(i:Int):bj:=if 0<=i then(if i<n then some i.toNat else none)else if -(n:Int)<=i then some (i+n).toNat else none
abbrev j9 {α:Type}(xs:List α)(i:Int):Option α:=(uB xs.length i).bind λj=>xs[j]?
def AR{n:Nat}{i:Int}(h:uB n i=some j):seqIndex? i n=some j/\j<n/\-(n:Int)<=i/\i<n:=by
 unfold uB at h;by_cases h0:0<=i
 ·rw[aX h0]at h;by_cases h1:i<n
  ·rw[aX h1]at h;have e:i.toNat=j:=aR h;exact⟨by rw[seqIndex_of h0 h1,e],(),(),h1⟩
  ·rw[aZ h1]at h;cases h
 ·rw[aZ h0]at h;by_cases h1:-(n:Int)<=i
  ·rw[aX h1]at h;have e:(i+n).toNat=j:=aR h;exact⟨by rw[seqIndex_neg () h1,e],(),h1,()⟩
  ·rw[aZ h1]at h;cases h
def uZ{α:Type}{xs:List α}{i:Int}{v:α}(h:j9 xs i=some v):∃j,seqIndex? i xs.length=some j/\xs[j]?=some v/\j<xs.length/\-(xs.length:Int)<=i/\i<xs.length:=by
 unfold j9 at h
 cases e:uB xs.length i with
 | none=>rw[e]at h;cases h
 | some j=>
  rw[e]at h;obtain⟨h1,h2,f,d⟩:=AR e;exact⟨j,h1,h,h2,f,d⟩
def Gn{α:Type}{xs:List α}{j:Nat}{v:α}(h:xs[j]?=some v):j9 xs (j:Int)=some v:=by
 have d:j<xs.length:=(aI.mp h).1;have e:uB xs.length (j:Int)=some j:=by
  unfold uB;rw[aX (),aX ()];simp
 unfold j9;rw[e];exact h
def wk{α:Type}(xs:List α)(v:α):j9 (xs++[v]) (-1)=some v:=by
 have d:(xs++[v]).length=xs.length+1:=by simp
 have e:uB (xs++[v]).length (-1)=some xs.length:=by
  unfold uB;rw[d,aZ ⋯,aX ()];congr 1
  lia
 unfold j9;rw[e]
 skip
 simp
abbrev vg (b:aC):Prop:=∀o i,subscripted b false o i=operate [o,i] (getItem o i)
abbrev Jt (X:Cx)(r:R2):Prop:=
 ∀(f d:aC) (pins:bn) (s:aA) (σ:St) (H:Hp) (x y:V) (v u:aa) (Q:VK),Inv X pins σ H s->RelV x v->RelV y u->r x y H Q ->
  subscripted d false v u=operate [v,u] (getItem v u)->wpAny (model X.prog X.w) X.A (subscriptTail f d v u) (EP X pins σ Q) X.xe s
abbrev Kr (X:Cx)(id:String)(r:V->List V->Hp->VK->Prop):Prop:=
 ∀(pins:bn) (s:aA) (σ:St) (H:Hp) (x:V) (xs:List V) (v:aa) (us:ar) (Q:VK),Inv X pins σ H s->RelV x v->Vals xs us->r x xs H Q ->
  wpAny (model X.prog X.w) X.A (call (.builtin id) (v::us)) (EP X pins σ Q) X.xe s
section
variable {X:Cx}{a b:aC}{ta tb:TE}{pos:Pos}
def HC{r:R2}(hr:Jt X r)(ha:PE X a ta)(hb:PE X b tb)(hs:vg b):PE X (.Subscript a b pos) (LH r ta tb):=by
 fin2;exact Subscript_<|JM ha hb I h λv u f x y H2 d rx ry q=>hr a b pins f σ H2 x y v u Q d rx ry q<|hs _ _
abbrev Mw (K:aq):R2:=λx y H Q=>∃p xs i v,x=.ref p/\y=.int i/\jh K H p xs/\j9 xs i=some v/\Q v H
abbrev M3 (K:aq):R2:=λx y H Q=>∃p xs i v,x=.ref p/\y=.int i/\kO K H p xs/\j9 xs i=some v/\Q v H
abbrev MO:R2:=λx y H Q=>∃z i c,x=.str z/\y=.int i/\z.length<=sizeLine/\j9 z.cps.toList i=some c/\Q (.str ⟨#[c]⟩) H
def z9:Jt X (Mw X.K):=by
 intro g B pins s σ H x y v u Q I rx ry h hs;obtain⟨p,xs,i,z,rfl,rfl,M,L,q⟩:=h
 cases rx
 obtain⟨t,rfl⟩:=ry;obtain⟨m,r,C,P⟩:=I.list M;obtain⟨j,h1,h2,O,N,J⟩:=uZ L;obtain⟨w,F,f⟩:=r.get h2;have G:=r.length;have hn:=qG;have d:EP X pins σ Q w s:=⟨z,H,I,f,q⟩;by_cases h0:0<=i
 ·have k:i.toNat=j:=by
   rw[seqIndex_of h0 J]at h1;exact aR h1
  exact item_listR C.isList h0 () (by rw[k];simpa using F) d hs
 ·have k:(i+(m.toArray.size:Int)).toNat=j:=by
   rw[seqIndex_neg () N]at h1;rw[aU,<- G];exact aR h1
  exact subscriptTail_builtinR (x:=w) C.isList.typeIs slot_list_getitem.lookup
   (wpAny_getItem_list_neg (Q:=λr s'=>r=w/\EP X pins σ Q r s') C.isList () (by rw[aU]<;>lia) () (by rw[k];simpa using F) ⟨rfl,d⟩) hs
def J9:Jt X (M3 X.K):=by
 intro f g pins s σ H x y v u Q I rx ry h hs;obtain⟨p,xs,i,z,rfl,rfl,G,F,q⟩:=h
 cases rx
 obtain⟨t,rfl⟩:=ry;obtain⟨C,r,m,N⟩:=I.tuple G;obtain⟨j,h1,h2,L,O,M⟩:=uZ F;obtain⟨w,J,d⟩:=r.get h2;have B:=r.length;have hn:=qG;have k:EP X pins σ Q w s:=⟨z,H,I,d,q⟩;exact subscriptTail_builtinR (x:=w) m.typeIs slot_tuple_getitem.lookup
  (getItem_tuple (j:=j) (Q:=λr s'=>r=w/\EP X pins σ Q r s') m () () (by rw[aU,<- B];exact h1) (by simpa using J) ⟨rfl,k⟩) hs
def JG:Jt X MO:=by
 intro d f pins s σ H x y v u Q I rx ry h hs;obtain⟨z,i,c,rfl,rfl,G,m,q⟩:=h;obtain⟨t,rfl⟩:=rx;obtain⟨F,rfl⟩:=ry;obtain⟨j,h1,h2,C,B,k⟩:=uZ m;have g:z.cps.toList.length=z.length:=by simp[Str.length]
 rw[g]at h1 B k;have hn:=qG;exact tail_any (typeIs_str s z t) slot_str_getitem.lookup (getItem_str (c:=c) (by
  have e1:decide (i < -(2 ^ 63:Int))=false:=bz ();have e2:decide (i>=2 ^ 63)=false:=bz ();rw[e1,e2,Bool.or_false]) (by rw[h1];simpa using h2) ⟨.str ⟨#[c]⟩,H,I.tok _,⟨_,rfl⟩,q⟩) hs
def xZ(its:ar)(n j:Nat)(u:aa):Obj.mapSeq (·.setIfInBounds j u) { cls:=.type "list",data:=.seq its.toArray n }={ cls:=.type "list",data:=.seq (its.set j u).toArray n }:=by
 simp[Obj.mapSeq]
def Inv.lst{H:Hp}{s:aA}{p:aj}{xs:List V}(I:Inv X pins σ H s)(h:H p=some (.lst xs)) :
  ∃(its:ar) (n:Nat),Vals xs its/\s.heap.get? p=some { cls:=.type "list",data:=.seq its.toArray n }/\xs.length<=sizeLine:=by
 obtain⟨z,its,n,r,e⟩:=I.hok p _ h;exact⟨its,n,r,e,z⟩
def Inv.IC{H:Hp}{s:aA}{p:aj}{ys:List V}{its its':ar}{n:Nat}{f:Obj->Obj}(I:Inv X pins σ H s)(h:H p=some (.lst xs))
  (ho:s.heap.get? p=some { cls:=.type "list",data:=.seq its.toArray n }) (hf:f { cls:=.type "list",data:=.seq its.toArray n }={ cls:=.type "list",data:=.seq its'.toArray n' }) (r:Vals ys its') (hz:ys.length<=sizeLine) (t:Nat) :
  Inv X pins σ (upd H p<|.lst ys) { s with heap:=s.heap.update p f,toks:=t }:=by
 have e:(s.heap.update p f).get? p=some { cls:=.type "list",data:=.seq its'.toArray n' }:=by
  rw[Heap.get?_update_self f ho<|by rw[hf]<;>rfl,hf]
 refine I.write (x:=p) (e:=p) (by rw[h];trivial) (.inl rfl) (λb u hb q=>(Heap.get?_update_other _ _<|cB hb).trans q) ⟨_,e⟩ ?_;exact⟨hz,its',n',r,e⟩
abbrev KD:V->V->V->Hp->(Hp->Prop)->Prop:=λo i v H Q=>∃p xs k j,o=.ref p/\i=.int k/\H p=some (.lst xs)/\uB xs.length k=some j/\Q (upd H p<|.lst<|xs.set j v)
def set_list:Km X KD:=by
 intro pins s σ H o i v N M u Q I F J L h;obtain⟨p,xs,k,j,rfl,rfl,hp,G,q⟩:=h
 cases F
 obtain⟨t,rfl⟩:=J;obtain⟨d,n,r,m,K⟩:=I.lst hp;obtain⟨h1,h2,B,C⟩:=AR G;have f:=r.length;have hn:=qG;have z:Inv X pins σ (upd H p<|.lst<|xs.set j v) { s with heap:=s.heap.update p<|Obj.mapSeq (·.setIfInBounds j u)}:=
  I.IC hp m (xZ d n j u) (r.set L j) (by rw[bA];exact K) s.toks
 by_cases h0:0<=k
 ·have g:k.toNat=j:=by
   rw[seqIndex_of h0 C]at h1;exact aR h1
  exact PySem.W.ki_setAt m h0 () (by rw[aU,<- f];exact C)<|by rw[g];exact⟨_,z,q⟩
 ·have g:(k+(d.toArray.size:Int)).toNat=j:=by
   rw[seqIndex_neg () B]at h1;rw[aU,<- f];exact aR h1
  exact PySem.W.ki_setBack m () (by rw[aU,<- f];exact B) ()<|by rw[g];exact⟨_,z,q⟩
def mQ:ir X (.type "list") (λxs H Q=>∃p ys,xs=[.ref p]/\(jh X.K H p ys\/kO X.K H p ys)/\∀l,H l=none->Q (.ref l) (upd H l<|.lst ys)):=by
 gn_on;obtain⟨p,ys,rfl,m,q⟩:=h;obtain⟨u,rfl,rx⟩:=vals1 r
 cases rx
 have k:∀(d:ar),Vals ys d->ys.length<=sizeLine->∀(h':ak) (g:Nat),(∀b o',s.heap.get? b=some o'->h'.get? b=some o') ->
   h'.get? s.heap.objs.size=some { cls:=.type "list",dict:=none,data:=.seq d.toArray g,slots:=#[]}->EP X pins σ Q (.ref s.heap.objs.size) { s with heap:=h' }:=λd f t h' g kp e=>
  ⟨.ref s.heap.objs.size,_,I.laid (t':=s.toks) kp (aN _)<|show iJ X.prog X.w _ h' _ (.lst ys)from⟨t,d,g,f,e⟩,rfl,q _<|I.hok.fresh<|aN _⟩
 rcases m with m|m
 ·obtain⟨d,f,B,t⟩:=I.list m;have j:=f.length;obtain⟨o,z,hc,n,hd⟩:=B.isList;exact call_list_seq p (.inl rfl) z hc hd (λh' g kp e=>k d f t h' g kp e) (by dsimp[aU]<;>lia)
 ·obtain⟨d,f,B,t⟩:=I.tuple m;have j:=f.length;obtain⟨o,z,hc,n,hd⟩:=B;exact call_list_seq p (.inr rfl) z hc hd (λh' g kp e=>k d f t h' g kp e)<|by dsimp[aU]<;>lia
abbrev L7 (K:aq)(T:String)(x:V)(H:Hp):Prop:=match x with
 | .str _=>T = "str"
 | .int _=>T = "int"
 | .ref p=>(T = "list" /\ ∃xs,jh K H p xs)\/(T = "tuple" /\ ∃o,K.lookup p=some o/\o.cls=.type "tuple" /\ o.dict=none) \/
   (T = "dict" /\ ((∃kvs,H p=some (.dK kvs))\/∃kvs,H p=some (.dT kvs)))\/(T = "set" /\ ∃S n,H p=some (.set S n))
 | _=>False
def Fc{H:Hp}{s:aA}{x:V}{v:aa}(I:Inv X pins σ H s)(r:RelV x v)(ty:L7 X.K T x H) :
  s.TypeIs v T/\∀a,v=.ref a->∃ob,s.heap.get? a=some ob/\ob.dict=none:=by
 cases x with
 | str z=>
  obtain⟨t,rfl⟩:=r
  cases(show T = "str" from ty)
  exact⟨typeIs_str s z t,nofun⟩
 | int i=>
  obtain⟨t,rfl⟩:=r
  cases(show T = "int" from ty)
  exact⟨typeIs_int s i t,nofun⟩
 | ref p=>
  cases r
  rcases ty with⟨rfl,xs,g⟩|⟨rfl,o,d,hc,hd⟩|⟨rfl,d⟩|⟨rfl,S,n,d⟩
  ·obtain⟨j,_,f,_⟩:=I.list g;refine⟨f.isList.typeIs,λa e=>?_⟩
   cases e
   obtain⟨o,n,e,c,hd,_⟩:=f;exact⟨o,e,hd⟩
  ·refine⟨⟨o,I.vI p o d,hc⟩,λa e=>?_⟩
   cases e
   exact⟨o,I.vI _ o d,hd⟩
  ·have z:∃o,s.heap.get? p=some o/\o.ExactDict:=by
    rcases d with⟨kvs,d⟩|⟨kvs,d⟩
    ·obtain⟨_,_,_,_,o,_,_,e,ex,_⟩:=I.hok p _ d;exact⟨o,e,ex⟩
    ·obtain⟨_,_,_,_,o,_,_,e,ex,_⟩:=I.hok p _ d;exact⟨o,e,ex⟩
   obtain⟨o,e,ex⟩:=z;refine⟨⟨o,e,ex.1⟩,λa e2=>?_⟩
   cases e2
   exact⟨o,e,ex.2.1⟩
  ·obtain⟨o,_,_,_,e,ex,_⟩:=I.hok p _ d;refine⟨⟨o,e,ex.1⟩,λa e2=>?_⟩
   cases e2
   exact⟨o,e,ex.2.1⟩
 | _=>exact False.elim ty
abbrev MP (K:aq)(T:String)(r:V->List V->Hp->VK->Prop)(to:TE):TE:=λσ H Q=>to σ H λx H1=>L7 K T x H1/\r x [] H1 Q
abbrev Od (K:aq)(T:String)(r:V->List V->Hp->VK->Prop)(to:TE)(t:TA):TE:=λσ H Q=>to σ H λx H1=>L7 K T x H1/\t σ H1 λxs H2=>r x xs H2 Q
variable {o e:aC}{es:List aC}{to:TE}{t:TA}{name:Str}{apos cpos:Pos}{T id:String}{r:V->List V->Hp->VK->Prop}
def Iv(pa:PlainAttrs T)(slot:Slot T name id)(hty:typeOf (.builtin id)=pure (.type "method_descriptor"))(hm:Kr X id r)(ho:PE X o to)
  (hbase:attributeBase o name X.env (eval o X.env)=eval o X.env:=by rfl) (hline:(apos.endLine == cpos.line)=true:=by rfl):PE X (.Call (.Attribute o name apos) [] [] cpos) (MP X.K T r to):=by
 fin2;refine wpAny_Call_method0_late hbase hline<|iN (ho pins s σ H _ I h) λv f ⟨x,H1,I1,r1,ty,d⟩=>?_;obtain⟨h1,h2⟩:=Fc I1 r1 ty;exact⟨T,id,pa,slot,hty,h1,h2,Calls.callWith_builtin rfl<|PySem.evalArgs_none<|hm pins f σ H1 x [] v [] Q I1 r1 .nil d⟩
def K5(pa:PlainAttrs T)(slot:Slot T name id)(hty:typeOf (.builtin id)=pure (.type "method_descriptor"))(hm:Kr X id r)(ho:PE X o to)(ha:PA X (e::es) t)
  (hbase:attributeBase o name X.env (eval o X.env)=eval o X.env:=by rfl)
  (hfew:((backTo cpos<|starEach (e::es) X.env).all (λx=>!x.1) && (backToKw cpos<|keywordEach [] X.env).all (λx=>x.1.isSome)
   && decide ((e::es).length+([]:List Keyword).length+(if ([]:List Keyword).isEmpty then 0 else 1)<30))=true:=by rfl)
  (hline:(apos.endLine == cpos.line)=true:=by rfl) (hs:starEach (e::es) X.env=(false,eval e X.env)::starEach es X.env:=by rfl) (hplain:(backTo cpos<|starEach es X.env).any (·.1)=false:=by rfl) :
  PE X (.Call (.Attribute o name apos) (e::es) [] cpos) (Od X.K T r to t):=by
 fin2;refine wpAny_Call_method_late hbase hfew hline rfl<|iN (ho pins s σ H _ I h) λv m ⟨x,H1,I1,r1,ty,f⟩=>?_;obtain⟨h1,h2⟩:=Fc I1 r1 ty;refine⟨T,id,pa,slot,hty,h1,h2,?_⟩;have d:=ha cpos pins m σ H1 _ I1 f;rw[hs]at d ⊢;refine Calls.callWith_builtin (by show(false || (backTo cpos<|starEach es X.env).any (·.1))=false;rw[hplain]<;>rfl)<|Calls.evalArgs_plain ?_;exact iN d λus z ⟨k,H2,g,r2,j⟩=>hm pins z σ H2 x k v us Q g r1 r2 j
end
abbrev N4 (X:Cx)(id:String)(r:V->List V->Hp->VK->Prop):Prop:=
 ∀(pins:bn) (s:aA) (σ:St) (H:Hp) (x:V) (xs:List V) (v:aa) (us:ar) (Q:VK),Inv X pins σ H s->RelV x v->Vals xs us->r x xs H Q ->
  wpAny (model X.prog X.w) X.A (call (.builtin id) (v::us)) (EP X pins σ Q) X.xe s
def Vals.one:∀{x:V}{us:ar},Vals [x] us->∃u,us=[u]/\RelV x u
 | _,_,.cons r .nil=>⟨_,rfl,r⟩
def Vals.zero:∀{us:ar},Vals [] us->us=[]
 | _,.nil=>rfl
def Vals.dropLast{xs:List V}{us:ar}(h:Vals xs us):Vals xs.dropLast us.dropLast:=by
 induction h with
 | nil=>exact .nil
 | cons r t d=>
  cases t with
  | nil=>exact .nil
  | cons q f=>exact .cons r d
def Vals.reverse{xs:List V}{us:ar}(h:Vals xs us):Vals xs.reverse us.reverse:=by
 induction h with
 | nil=>exact .nil
 | cons r t d=>rw[ez,ez];exact Vals.append d<|.cons r .nil
theorem Vals.rep(h:Vals xs us):∀k:Nat,Vals (List.replicate k xs).flatten (List.replicate k us).flatten
 | 0=>.nil
 | k+1=>by
  rw[cz,cz,bE,bE];exact Vals.append h<|Vals.rep h k
def yy{α:Type}(l:List α):l.eraseIdx (l.length-1)=l.dropLast:=by
 induction l with
 | nil=>rfl
 | cons a r d=>
  cases r with
  | nil=>rfl
  | cons b r=>
   have e:(a::b::r).length-1=((b::r).length-1)+1:=by
    have h1:(a::b::r).length=r.length+2:=rfl;have h2:(b::r).length=r.length+1:=rfl
    lia
   rw[e,List.eraseIdx_cons_succ,d]
   all_goals rfl
theorem foldl_rep(its:ar):∀(k:Nat) (acc:ar),
  List.foldl (λx1 x2=>x1++x2) acc.toArray (List.replicate k its.toArray)=(acc++(List.replicate k its).flatten).toArray
 | 0,acc=>by simp
 | k+1,acc=>by
  have e:acc.toArray++its.toArray=(acc++its).toArray:=by simp
  have e2:(acc++its)++(List.replicate k its).flatten=acc++(List.replicate (k+1) its).flatten:=by
   rw[cz,bE,bK]
  rw[<- e2,<- foldl_rep its k (acc++its),<- e,cz,List.foldl_cons]
section
variable {X:Cx}{pins:bn}{σ:St}{H:Hp}{s:aA}{l:aj}{xs ys:List V}
def Inv.K6{its its':ar}{n:Nat}{f:Array aa->Array aa}{t':Nat}(I:Inv X pins σ H s)(hH:H l=some (.lst xs))
  (e:s.heap.get? l=some { cls:=.type "list",data:=.seq its.toArray n }) (hf:f its.toArray=its'.toArray) (hv:Vals ys its') (hz:ys.length<=sizeLine) :
  Inv X pins σ (upd H l<|.lst ys) { s with heap:=s.heap.update l<|Obj.mapSeq f,toks:=t' }:=by
 have q:=PySem.IsL.update e f;rw[hf]at q;refine I.write (x:=l) (e:=l) (by rw[hH];exact trivial) (.inl rfl) (λg u hb d=>(Heap.get?_update_other s.heap (Obj.mapSeq f)<|cB hb).trans d) ⟨_,q⟩ ?_;exact⟨hz,its',_,hv,q⟩
def Inv.D_{its:ar}{t':Nat}(I:Inv X pins σ H s)(hv:Vals ys its)(hz:ys.length<=sizeLine) :
  Inv X pins σ (upd H s.heap.objs.size<|.lst ys) { s with heap:=s.heap.push { cls:=.type "list",data:=.seq its.toArray },toks:=t' }:=
 I.laid (λ_ _ q=>aW _ q) (aN _) ⟨hz,its,0,hv,bR _ rfl⟩
def Inv.fresh(I:Inv X pins σ H s):H s.heap.objs.size=none:=I.hok.fresh<|aN _
def Inv.C4(I:Inv X pins σ H s)(hH:H l=some (.lst xs)):xs.length<=sizeLine/\∃(its:ar) (n:Nat),Vals xs its/\xs.length=its.length/\s.heap.get? l=some { cls:=.type "list",data:=.seq its.toArray n }:=by
 obtain⟨z,its,n,r,e⟩:=I.hok l _ hH;exact⟨z,its,n,r,r.length,e⟩
def E4{n:Nat}(h:n<=sizeLine):Builtin.List.listTooLong n=false:=by
 unfold Builtin.List.listTooLong;exact bz ()
end
section
variable {X:Cx}
abbrev G1:V->List V->Hp->VK->Prop:=λx d H Q=>∃l xs y,x=.ref l/\d=[y]/\H l=some (.lst xs)/\xs.length<sizeLine/\Q .non (upd H l<|.lst<|xs++[y])
def qH:N4 X "list.append" G1:=by
 intro pins s σ H x m v us Q I rx j h;obtain⟨l,xs,y,rfl,rfl,f,t,q⟩:=h
 cases rx
 obtain⟨u,rfl,g⟩:=j.one;obtain⟨z,d,n,r,k,e⟩:=I.C4 f;refine call_meets F.slot_list_append ⟨_,e,rfl⟩ F.entry_list_append (F.args_list_append_2 _ _) (PySem.list_append l d.toArray n u<|by rw[aU];lia) ⟨e,?_⟩;refine⟨.non,_,I.K6 (its':=d++[u]) f e (by simp) (r.append<|.cons g .nil) ?_,rfl,q⟩;rw[aM,List.length_singleton]
 lia
abbrev MS:V->List V->Hp->VK->Prop:=λx d H Q=>∃l xs y,x=.ref l/\d=[]/\H l=some (.lst xs)/\xs[xs.length-1]?=some y/\Q y (upd H l<|.lst xs.dropLast)
def Jr:N4 X "list.pop" MS:=by
 intro pins s σ H x C v us Q I rx B h;obtain⟨l,xs,y,rfl,rfl,j,hy,q⟩:=h
 cases rx
 have f:=B.zero;subst f;obtain⟨z,d,n,r,k,e⟩:=I.C4 j;obtain⟨u,t,m⟩:=r.get hy;have g:d.toArray[d.toArray.size-1]?=some u:=by
  show d.toArray[d.length-1]?=some u;rw[<- Array.getElem?_toList,<- k];exact t
 refine call_meets F.slot_list_pop ⟨_,e,rfl⟩ F.entry_list_pop (F.args_list_pop_1 _) (MeetsSeq.list_pop_last l d.toArray n u g<|by rw[aU];lia) ⟨e,?_⟩;refine⟨y,_,I.K6 (its':=d.dropLast) j e ?_ r.dropLast ?_,m,q⟩
 ·skip
  rw[aU,List.eraseIdxIfInBounds_toArray,yy]
 ·rw[dI]
  lia
abbrev Nc:R2:=λx y H Q=>∃l b xs zs,x=.ref l/\y=.ref b/\H l=some (.lst xs)/\H b=some (.lst zs)/\xs.length+zs.length<=sizeLine/\∀p,H p=none->Q (.ref p) (upd H p<|.lst<|xs++zs)
def IB:jZ X (binaryOp .Add) Nc:=by
 kt_k;obtain⟨l,b,xs,zs,rfl,rfl,m,j,F,q⟩:=h
 cases rx
 cases ry
 obtain⟨z,f,n,r,B,e⟩:=I.C4 m;obtain⟨t,d,C,r2,g,e2⟩:=I.C4 j;refine PySem.P.add_list e e2 ?_ (by rw[aU,aU];lia);have k:f.toArray++d.toArray=(f++d).toArray:=by simp
 rw[k];exact⟨.ref _,_,I.D_ (t':=s.toks) (r.append r2)<|by rw[aM];lia,rfl,q _ I.fresh⟩
abbrev MU:R2:=λx y H Q=>∃l k xs,x=.ref l/\y=.int k/\H l=some (.lst xs)/\-(2 ^ 63)<=k/\k<2 ^ 63/\xs.length * k.toNat<=sizeLine /\
 ∀p,H p=none->Q (.ref p) (upd H p<|.lst (List.replicate k.toNat xs).flatten)
def len_rep{α:Type}(xs:List α)(k:Nat):(List.replicate k xs).flatten.length=k * xs.length:=by
 induction k with
 | zero=>simp
 | succ k d=>rw[cz,bE,aM,d,Nat.succ_mul,Nat.add_comm]
def JI:jZ X (binaryOp .Mult) MU:=by
 kt_k;obtain⟨l,k,xs,rfl,rfl,M,h1,h2,K,q⟩:=h
 cases rx
 obtain⟨t,rfl⟩:=ry;obtain⟨z,d,n,r,L,e⟩:=I.C4 M;have B:d.toArray.size * k.toNat<=sizeLine:=by rw[aU,<- L];exact K
 have g:¬d.toArray.size * k.toNat>(2 ^ 63-1) / 8:=by
  have:(sizeLine:Nat)<=(2 ^ 63-1) / 8:=by decide
  omega
 have j:¬(!Builtin.List.listFitsIndex k)=true:=by
  rw[fitsIndex_both h1 h2];exact bh
 have f:¬Builtin.List.listTooLong (d.toArray.size * k.toNat)=true:=by
  rw[E4 B];exact bh
 have C:List.foldl (λJ G=>J++G) #[] (List.replicate (if d.toArray.isEmpty=true then 0 else k.toNat) d.toArray)=(List.replicate k.toNat d).flatten.toArray:=by
  have f0:∀m:Nat,List.foldl (λJ G=>J++G) #[] (List.replicate m d.toArray)=(List.replicate m d).flatten.toArray:=λm=>by
   have:=foldl_rep d m [];rw[f_]at this;exact this
  rw[f0]
  cases d with
  | nil=>simp
  | cons a N=>rw[aZ<|by simp]
 refine wpAny_binaryOp_repeat_ref (T := "list") (U := "int") ⋯ ⟨_,e,rfl⟩ (λs'=>typeIs_int s' k t) noFill_list_mul F.fills_int_mul F.slot_int_rmul repeat_list F.slot_int_index.lookup
  (call_meets F.slot_int_rmul (typeIs_int s k t) F.entry_int_rmul (F.args_int_rmul_2 _ _) (int___rmul___int_list k t l d.toArray n)
   ⟨e,rfl,⟨_,e,rfl⟩,call_meets F.slot_list_mul ⟨_,e,rfl⟩ F.entry_list_mul (F.args_list_mul_2 _ _) (AutoListH.list___mul___list_int_3 l d.toArray n k t j g f) ⟨e,?_⟩⟩)
 rw[C];exact⟨.ref _,_,I.D_ (t':=s.toks) (r.rep k.toNat)<|by rw[len_rep,Nat.mul_comm];exact K,rfl,q _ I.fresh⟩
end
end L2
namespace Att
open PySem PySem.W PySem.Calls PyProof.Rows
def qW{P:Params}:∀(ns:ag) (vs:ar),WellAll P h vs (ns.map WData.int)->IntsAre vs ns:=by
 intro ns
 induction ns with
 | nil=>
  intro vs w;rw[cK]at w
  cases w
  exact .nil
 | cons n ns d=>
  intro vs w;rw[bH]at w
  cases w with
  | cons a b=>
   cases a
   exact .cons _ _<|d _ b
def Bk{l:OpenLaw}{n:Nat}(hn:l.most=some n){P:Params}{h:ak}
  (hpre:l.row.toRowW.claim.pre args=true) (hwl:WellAll P h vals args) :
  ∃a vs ns,vals=[Value.ref a]/\args=[WData.list<|ns.map WData.int]/\h.get? a=some { cls:=.type "list",data:=.seq vs.toArray }/\IntsAre vs ns/\ns.length<=n:=by
 have m:WShape.hasAll [] args [.list .int]=true:=(pre_splitW hpre).1;have hc:l.pre.holds [] { args:=args }=true:=(pre_splitW hpre).2;obtain⟨d,r,rfl,h1,h2⟩:=hasAllW_cons m;obtain rfl:=hasAllW_nil h2;obtain⟨xs,rfl,z⟩:=hasW_list h1;obtain⟨ns,rfl⟩:=items_int z;have g:ns.length<=n:=by
  unfold OpenLaw.pre at hc;have k:(WTm.not<|.lt (.lit<|.int (n:Int))<|.len<|.arg 0).holds [] { args:=[.list<|ns.map .int]}=true:=by
   have k:=(holds_andW hc).1;rw[hn]at k;exact k
  have j:=condW_of k<|w_not<|w_lt w_lit<|w_len_list<|w_arg rfl;rw[aH]at j;refine Nat.le_of_not_lt λq=>?_;have B:(n:Int)<((ns.length:Nat):Int):=by omega
  first
   | (rw[a_ B]at j;exact absurd j ⋯)
   | (simp at j;omega)
 cases hwl with
 | cons C t=>
  cases t
  cases C with
  | list F f=>exact⟨_,_,ns,rfl,rfl,F,qW ns _ f,g⟩
def Bc(l:OpenLaw)(args:List WData):l.row.toRowW.claim.post args (.bool true) args=true:=
 postW_of (r:=l.row.toRowW) (X:=(true == true))
  (show WShape.has [] (.bool true) .bool=true by first|rfl|decide|simp[WShape.has,WShape.arms,WShape.armsAll])
  (show(WTm.eq .res<|.lit<|.bool true).value [] { args:=args,res:=some<|.bool true,after:=args }=some (.bool<|true == true)from w_eq_bool (w_res rfl) w_lit) rfl
def vP{l:OpenLaw}{n:Nat}{q:ah}{XP:(Str->be)->ak->Prop}{YP:af->ak->Prop}{d:DefRec}
  (hn:l.most=some n) (hdf:d.params.defaults=[])
  (call:∀(w:af) (s₀ s₁:aA) (mg mb:Str->be) (fa:aj) (o:Obj) (pm cd doc:aa) (a:aj) (vs:ar) (ns:ag),
   Ground q loose [] XP w s₀ mg mb s₁.heap->YP w s₁.heap ->
   s₁.heap.get? fa=some o->o.data=.func (docDef d.name d.params d.body d.scope pm cd doc)->s₁.heap.CodeRec cd d.name->mg d.name=some (.ref fa) ->
   s₁.heap.get? a=some { cls:=.type "list",data:=.seq vs.toArray }->IntsAre vs ns->ns.length<=n->s₁.gens=#[] ->
   codeAny (model l.prog w) callerA (.call (.ref fa) ⟨[.ref a],[]⟩) (λr s'=>r=.ok (.ret<|.bool true)/\OldK s₁.heap s'.heap/\s'.os=s₁.os/\AllBare s'.gens) s₁) :
  WalkO q loose XP YP l.row.toRowW d [] (λf vs=>PySem.call f vs):=by
 intro w s₀ s₁ mg mb G Y fa o pm cd doc O kV N hd B J t hg K F W m C P z M;obtain rfl:O=.none:=Dflts.none J hdf;obtain rfl:kV=.none:=Dflts.noKw J;obtain⟨a,vs,ns,rfl,rfl,j,g,k⟩:=Bk hn m z;refine enter_call<|fD (call w s₀ s₁ mg mb fa o pm cd doc a vs ns G Y N (fd_plain hd) B t j g k hg) λr s' U=>?_;obtain⟨rfl,h2,L,V⟩:=U;exact⟨.inl ⟨.bool true,.bool true,[],rfl,λ_=>rfl,.bool true,Bc l _,λ_=>⟨List.Pairwise.nil,λ_ hm=>(nomatch hm)⟩⟩,h2,L,V⟩
end Att
namespace L2
open PySem PySem.Spec PyProof.Rows
theorem qw:∀{vs:ar}{ns:ag},IntsAre vs ns->Vals (ns.map V.int) vs
 | _,_,.nil=>.nil
 | _,_,.cons n t h=>.cons ⟨t,rfl⟩<|qw h
abbrev FI (H:Hp):Prop:=∀b,H b=none\/∃o xs,H b=some (.frz o<|.lst xs)
def B5{P:ah}{w:af}{K:aq}{mg mb:Str->be}{CX:FG}{k:Nat}{fa a:aj}{x:Str}{sp:Sp}{s₁:aA}{vs:ar}{ns:ag}
  (KX:K.In s₁.heap) (hns:s₁.heap.Ns mainGlobals mg) (hb:s₁.heap.Ns builtinsNs mb) (hbb:∀x:Str,x ≠ "__name__" -> mb x=bootBuiltins x) (hlim:s₁.heap.NoLimit) (hg:s₁.gens=#[])
  (ha:s₁.heap.get? a=some { cls:=.type "list",data:=.seq vs.toArray }) (hi:IntsAre vs ns) (hl:ns.length<=sizeLine) (hr:Room k callerA)
  (F:∀base:ak,K.In base->base.Ns mainGlobals mg->FnOk P w K mg base CX k fa fd [x] sp) (hbind:∀(s:aA) (u:aa),BindsTo s fd ⟨[u],[]⟩ [(x,u)])
  (hsp:∀H:Hp,FI H->jh K H a (ns.map V.int)->sp [.ref a] H (λv _=>v=.bl true) λ_ _ _=>False)
  (hCX:∀H e s',CX [] H s₁ (λ_ _ _=>False) e s'->False) :
  codeAny (model P w) callerA (.call (.ref fa) ⟨[.ref a],[]⟩) (λr s'=>r=.ok (.ret<|.bool true)/\OldK s₁.heap s'.heap/\s'.os=s₁.os/\AllBare s'.gens) s₁:=by
 have W:=qw hi;have J:=hi.length;have j:∀H:Hp,FI H->jh K H a (ns.map V.int)->pN P w H s₁.heap->(∀b,H b≠none->b=a)->(H a≠none->K.lookup a=none) ->
   codeAny (model P w) callerA (.call (.ref fa) ⟨[.ref a],[]⟩) (λr s'=>r=.ok (.ret<|.bool true)/\OldK s₁.heap s'.heap/\s'.os=s₁.os/\AllBare s'.gens) s₁:=by
  intro H O hS hok U hK;have f:∀{b:aj} {o:Obj},s₁.heap.get? b=some o->H b=none->(vc s₁.heap H).get? b=some o:=λe n=>C3 e n;have L:∀{b:aj} {o:Obj} {es:Array DictEntry} {C:Nat},s₁.heap.get? b=some o->o.data=.dict es C->H b=none:=λ{b o es C} e d=>by
   cases q:H b with
   | none=>rfl
   | some u=>
    have N:b=a:=U b (by rw[q];simp);subst N;rw[ha]at e;cases e;have d':Data.seq vs.toArray _=Data.dict es C:=d
    cases d'
  have g:∀{b:aj} {m:Str->be},s₁.heap.Ns b m->(vc s₁.heap H).Ns b m:=λ{b m} ⟨o,es,C,e,d,r⟩=>⟨o,es,C,f e<|L e d,d,r⟩;have t:K.In (vc s₁.heap H):=λb o e=>f (KX b o e) (by
   cases q:H b with
   | none=>rfl
   | some u=>
    have N:b=a:=U b (by rw[q];simp);subst N;rw[hK<|by rw[q];simp]at e;cases e)
  have hM:Mod K mg (vc s₁.heap H):=⟨t,g hns,⟨mb,g hb,hbb⟩,let⟨mc,h1,h2⟩:=hlim;⟨mc,g h1,h2⟩⟩;have e0:Env0 P w K mg (vc s₁.heap H) callerA [] s₁ H:=⟨rfl,hM,λb o e=>Gm e,Nat.le_of_eq<|BW _ _,trivial,λb hb=>absurd (show b∈([]:ba)from hb)<|by simp,hok,.of_eq hg⟩;refine fD ((F _ t<|g hns).run callerA [] s₁ H ⟨[.ref a],[]⟩ [.ref a] [.ref a] _ _ hr e0 (hbind s₁<|.ref a) (.cons rfl .nil)<|hsp H O hS) λr s' h=>?_
  cases r with
  | error e=>exact(hCX H e s' h).elim
  | ok fl=>
   cases fl with
   | next=>exact False.elim h
   | brk=>exact False.elim h
   | cont=>exact False.elim h
   | ret u=>
    obtain⟨v,H',os,bare,un,G,r',q⟩:=h;have Z:v=.bl true:=q;subst Z;obtain rfl:u=Value.bool true:=r';refine⟨rfl,OldK.of_keep λb o e=>?_,os,bare⟩
    cases q:H b with
    | none=>exact un.keep b o e q (by intro z;exact absurd (show b∈([]:ba)from z)<|by simp) (by simp)
    | some u=>
     rcases O b with z|⟨ob,xs,z⟩
     ·rw[q]at z;cases z
     ·have Y:=un.frzs b ob _ z;obtain⟨e1,_⟩:=hok b _ z;obtain⟨e2,_⟩:=G b _ Y;rw[e]at e1;cases e1;exact e2
 cases M:K.lookup a with
 | some o=>
  have e:=KX a o M;rw[ha]at e
  cases e
  refine j (λ_=>none) (λ_=>.inl rfl) (.inr ⟨_,vs.toArray,_,M,rfl,rfl,rfl,by rw[aU,J];exact hl,by simpa using W⟩) (λb u z=>by have B:(none:Option HO)=some u:=z;cases B) (λb z=>absurd rfl z) λz=>absurd rfl z
 | none=>
  refine j (λb=>if b=a then some (.frz { cls:=.type "list",data:=.seq vs.toArray } (.lst<|ns.map V.int))else none) (λb=>?_) (.inl<|.inr ⟨{ cls:=.type "list",data:=.seq vs.toArray },aX rfl⟩) (λb u z=>?_) (λb z=>?_) λ_=>M
  ·by_cases hb:b=a
   ·exact .inr ⟨_,_,aX hb⟩
   ·exact .inl<|aZ hb
  ·by_cases hb:b=a
   ·have B:=(aX hb).symm.trans z
    cases B
    subst hb;exact⟨ha,by rw[aH];exact hl,vs,_,W,ha⟩
   ·have B:=(aZ hb).symm.trans z
    cases B
  ·by_cases hb:b=a
   ·exact hb
   ·exact absurd (aZ hb) z
def FL{l:PySem.W.OpenLaw}{n k:Nat}{q:ah}{XP:(Str->be)->ak->Prop}{YP:af->ak->Prop}{d:DefRec}{K:Params->aq}{CX:af->FG}{sp:af->Sp}{x:Str}
  (hn:l.most=some n) (hn2:n<=sizeLine) (hdf:d.params.defaults=[]) (hr:Room k callerA)
  (hY:∀(w:af) (h:ak),YP w h->(K w.params).In h)
  (F:∀(w:af) (mg:Str->be) (fa:aj) (h:ak),(K w.params).In h->h.Ns mainGlobals mg->mg d.name=some (.ref fa) ->
   ∃fd:FuncData,(∀(s:aA) (u:aa),BindsTo s fd ⟨[u],[]⟩ [(x,u)]) /\
    ∀base:ak,(K w.params).In base->base.Ns mainGlobals mg->FnOk l.prog w (K w.params) mg base (CX w) k fa fd [x] (sp w))
  (hsp:∀(w:af) (H:Hp) (a:aj) (ns:ag),ns.length<=n->FI H->jh (K w.params) H a (ns.map V.int)->sp w [.ref a] H (λv _=>v=.bl true) λ_ _ _=>False)
  (hCX:∀(w:af) (H:Hp) (s:aA) (e:aa) (s':aA),CX w [] H s (λ_ _ _=>False) e s'->False) :
  PySem.W.WalkO q loose XP YP l.row.toRowW d [] (λf vs=>PySem.call f vs):=by
 refine Att.vP hn hdf λw C z mg mb fa o U Z N a vs ns G Y ho hd O B t m j hg=>?_;have J:=hY w _ Y;obtain⟨fd,hb,L⟩:=F w mg fa _ J G.T.g B;exact B5 J G.T.g G.T.b G.T.builtins G.T.nolimit hg t m (b6 j hn2) hr L hb (λH M P=>hsp w H a ns j M P) λH e s'=>hCX w H z e s'
abbrev om (s:aE):Arguments:=match s with
 | .FunctionDef _ a _ _ _ _ _ _ _ _=>a
 | _=>{ posonlyargs:=[],args:=[],vararg:=none,kwonlyargs:=[],kw_defaults:=[],kwarg:=none,defaults:=[]}
abbrev lF (s:aE):List aE:=match s with
 | .FunctionDef _ _ b _ _ _ _ _ _ _=>b
 | _=>[]
abbrev gG (s:aE):Scope:=match s with
 | .FunctionDef _ _ _ _ _ _ d _ _ _=>d
 | _=>{ kind:=.function,names:=[],isGenerator:=false,isCoroutine:=false }
meta abbrev nU:FG:=λ_ _ _ _ _ _=>False
meta abbrev E0:XK:=λ_ _ _=>False
def LM:Passes nU X E0:=λ_ _ _ _ _ _ _ h=>h.elim
structure Fun (K:aq)(x qual:Str)(st:aE)(f:aj)(fd:FuncData):Prop where
 ex:∃(oc:aa) (od:Option aj) (kV doc pm:aa) (an:Option aj) (cdv ct:aa) (osl:Array<|be),
  fd=PySem.W.fnOf x qual (om st) (lF st) (gG st) .none kV doc pm an cdv ct/\K.lookup f=some ⟨oc,od,.func fd,osl⟩/\PySem.W.codeIn K cdv qual=true
 kp:PySem.W.keepIn K (.ref f)=true
section
variable {P:ah}{w:af}{K:aq}{mg:Str->be}{base:ak}
def Fun.ok{x:Str}{st:aE}{f:aj}{N ps:ap}{k:Nat}{sp:Sp}(F:Fun K x qual st f fd)(S:FnScope N ps<|gG st)(len:∀vs H Q E,sp vs H Q E->vs.length=ps.length)
  (hbody:∀(cdv:aa) (A:au) (outer:List Env) (s:aA) (H:Hp) (vs:List V) (Q:VK) (E:XK),Room k (A.deeper<|envOfC qual (gG st) s.heap.objs.size f cdv)->sp vs H Q E ->
   ∃t,ve (yE nU P w K mg base N qual (gG st) f cdv A outer s H E).LA (lF st) t/\t { nx:=λ_ H'=>Q .non H',rt:=Q } (start N vs) H):FnOk P w K mg base nU (k+1) f fd ps sp:=by
 obtain⟨J,L,kV,z,C,G,cdv,ct,m,rfl,j,d⟩:=F.ex;refine LZ j d S len λA outer s H vs Q E B g=>?_;obtain⟨t,h,q⟩:=hbody cdv A outer s H vs Q E B g;exact⟨t,h.LA,q⟩
def Fun.binds{x:Str}{st:aE}{f:aj}{ps:ap}(F:Fun K x qual st f fd)
  (h:∀(kV doc pm:aa) (an:Option aj) (cdv ct:aa) (us:ar),us.length=ps.length->bindArgs (PySem.W.fnOf x qual (om st) (lF st) (gG st) .none kV doc pm an cdv ct) ⟨us,[]⟩=pure (ps.zip us)):Binds K fd ps []:=by
 obtain⟨m,k,kV,doc,pm,an,cdv,ct,d,rfl,j,g⟩:=F.ex;exact .all<|h kV doc pm an cdv ct
def JP{x:Str}{st:aE}{f:aj}{kV pm ct:aa}(l:K.lookup f=some ⟨oc,od,.func<|PySem.W.fnOf x qual (om st) (lF st) (gG st) .none kV doc pm an cdv ct,osl⟩)
  (c:PySem.W.codeIn K cdv qual=true) (k:PySem.W.keepIn K (.ref f)=true):Fun K x qual st f (PySem.W.fnOf x qual (om st) (lF st) (gG st) .none kV doc pm an cdv ct):=⟨⟨oc,od,kV,doc,pm,an,cdv,ct,osl,rfl,l,c⟩,k⟩
end
set_option maxHeartbeats 4000000
abbrev E1 (σ:St):bj->Option V
 | some j=>(σ[j]?).getD none
 | none=>none
abbrev ny (env:Env):List (Str×NameKind)->List (Str×aj)->List (Str×aj)
 | [],cs=>cs
 | (n,k)::r,cs=>ny env r (if k == .free then(n,(env.cells.lookup n).getD 0)::cs else cs)
def oV{scope:Scope}{env:Env}(h:∀y∈scope.names,y.2=.free->∃c,env.cells.lookup y.1=some c):closureFor scope env=pure (ny env scope.names []):=by
 have g:∀(l:List<|Str×NameKind) (d:List<|Str×aj),(∀y∈l,y.2=.free->∃c,env.cells.lookup y.1=some c) ->
   (forIn l d (λ(x:Str×NameKind) (r:List<|Str×aj)=>(match x with
    | (name,kind)=>if (kind == NameKind.free)=true then(do let c <- cellOf env name;pure (ForInStep.yield ((name,c)::r)))else pure (ForInStep.yield r):Sem<|ForInStep<|List<|Str×aj)))=(pure (ny env l d):Sem<|List<|Str×aj):=by
  intro l
  induction l with
  | nil=>intro d _;rfl
  | cons y r m=>
   intro d f;obtain⟨n,k⟩:=y;rw[List.forIn_cons];by_cases t:k=.free
   ·subst t;obtain⟨c,hc⟩:=f (n,.free) aY rfl;have e1:cellOf env n=pure c:=by
     unfold cellOf;rw[hc]
    dsimp[cD,gi,e1,pure_bind];rw[m _ λz j=>f z<|aK _ j];dsimp[ny,cD,gi,hc,di]
   ·have hb:(k == NameKind.free)=false:=by simpa using t
    dsimp[hb,fH,fJ,pure_bind];rw[m _ λz j=>f z<|aK _ j];dsimp[ny,hb,fH,fJ]
 have:=g scope.names [] h;exact(b_ (λz=>z >>= λd=>(pure d:Sem<|List<|Str×aj)) this).trans (pure_bind _ _)
theorem sy:∀{l:List<|Str×NameKind}{x:Str}{k:NameKind},l.lookup x=some k->(x,k)∈l
 | [],_,_,h=>nomatch h
 | (n,k')::r,x,k,h=>by
  rw[cP]at h
  cases hx:x == n with
  | true=>
   rw[hx]at h;have e:x=n:=by simpa using hx
   subst e
   cases h
   exact aY
  | false=>rw[hx]at h;exact aK _<|sy h
theorem tO{env:Env}{x:Str}:∀{l:List<|Str×NameKind}{cs:List<|Str×aj},(∀y∈l,y.2=.free->∃c,env.cells.lookup y.1=some c)->(ny env l cs).lookup x=some c->env.cells.lookup x=some c\/cs.lookup x=some c
 | [],cs,_,h=>.inr h
 | (n,k)::r,cs,hl,h=>by
  have h':=tO (l:=r) (λz f=>hl z<|aK _ f) h
  rcases h' with h'|h'
  ·exact .inl h'
  ·by_cases d:k=.free
   ·subst d;dsimp[cD,gi]at h';obtain⟨g,hc⟩:=hl (n,.free) aY rfl;rw[hc,di,cP]at h'
    cases hx:x == n with
    | true=>
     rw[hx]at h';have e:x=n:=by simpa using hx
     subst e;left;rw[hc];exact h'
    | false=>rw[hx]at h';exact .inr h'
   ·have hb:(k == NameKind.free)=false:=by simpa using d
    dsimp[hb,fH,fJ]at h';exact .inr h'
theorem ud{env:Env}{x:Str}:∀{l:List<|Str×NameKind}{cs:List<|Str×aj},(cs.lookup x).isSome=true->((ny env l cs).lookup x).isSome=true
 | [],cs,h=>h
 | (n,k)::r,cs,h=>by
  skip
  refine ud (l:=r) ?_;by_cases d:(k == NameKind.free)=true
  ·rw[aX d,cP]
   cases hx:x == n with
   | true=>rfl
   | false=>exact h
  ·rw[aZ d];exact h
theorem rW{env:Env}{x:Str}:∀{l:List<|Str×NameKind}{cs:List<|Str×aj},(x,NameKind.free)∈l->((ny env l cs).lookup x).isSome=true
 | [],_,h=>nomatch h
 | (n,k)::r,cs,h=>by
  rcases br.mp h with e|h
  ·cases e
   skip
   refine ud (l:=r) ?_;rw[aX<|by rfl,cP];simp
  ·exact rW (l:=r) h
theorem pJ:∀(names:List<|Str×NameKind) (n:Nat) (acc:List<|Str×aj),cellsFrom n names acc=cellsFrom n names []++acc
 | [],_,_=>rfl
 | (x,k)::r,n,acc=>by
  unfold cellsFrom;split
  ·rw[pJ r (n+1) ((x,n)::acc),pJ r (n+1) [(x,n)],bK];rfl
  ·exact pJ r n acc
theorem ym:∀(names:List<|Str×NameKind) (n:Nat) {x:Str}{c:aj},(x,c)∈cellsFrom n names []->(x,NameKind.cell)∈names
 | [],_,_,_,h=>nomatch h
 | (y,k)::r,n,x,c,h=>by
  unfold cellsFrom at h;split at h
  ·rename_i d;rw[pJ]at h
   rcases bC.mp h with z|z
   ·exact aK _ (ym r _ z)
   ·rw[aQ]at z
    cases z
    have:k=.cell:=by simpa using d
    rw[this];exact aY
  ·exact aK _<|ym r _ h
theorem pW{α:Type}{x:Str}:∀{l m:List<|Str×α},(l++m).lookup x=match l.lookup x with|some c=>some c|none=>m.lookup x
 | [],_=>rfl
 | (y,c)::l,m=>by
  rw[List.cons_append,cP,cP]
  cases x == y with
  | true=>rfl
  | false=>exact pW
def GS{n:Nat}{acc:List<|Str×aj}{x:Str}(h:(cellsFrom n names acc).lookup x=some c):(cellsFrom n names []).lookup x=some c\/((cellsFrom n names []).lookup x=none/\acc.lookup x=some c):=by
 rw[pJ,pW]at h
 cases e:(cellsFrom n names []).lookup x with
 | some d=>rw[e]at h;exact .inl h
 | none=>rw[e]at h;exact .inr ⟨rfl,h⟩
def IK{n:Nat}{acc:List<|Str×aj}{x:Str}(h:(x,NameKind.cell)∉names):(cellsFrom n names acc).lookup x=acc.lookup x:=by
 rw[pJ,pW]
 cases e:(cellsFrom n names []).lookup x with
 | some d=>exact absurd (ym names n<|b9 e) h
 | none=>rfl
def vF{A:au}{E:aa->aA->Prop}{s:aA}{scope:Scope}{globals:aj}{cl:List<|Str×aj}{env:Env}{Q:Env->aA->Prop}
  (hQ:∀h':ak,h'.Ns s.heap.objs.size (λ_=>none)->(∀b o,s.heap.get? b=some o->h'.get? b=some o)->CellsOk h' (s.heap.objs.size+1) (cellsFrom (s.heap.objs.size+1) scope.names []) ->
   Q (newEnv scope s.heap.objs.size globals (cellsFrom (s.heap.objs.size+1) scope.names cl) qual none .none (some env) builtinsNs) { s with heap:=h',toks:=s.toks+([]:List<|Str×aa).length }) :
  wpAny M A (newFunctionEnv scope globals cl [] qual none .none<|some env) Q E s:=by
 dsimp[newFunctionEnv,isSome_some,gi];refine aJ<|wpAny_alloc ?_;refine aJ (wpAny_layCells _ (λname kind cells=>by cases d:kind == NameKind.cell<;>simp[d]) _ _ _ _ ?_);have ok:=cellsFrom_ok scope.names (s.heap.push { cls:=.type "dict",data:=.dict #[]}) (s.heap.objs.size+1) [] ⟨λ_ _ hm=>(nomatch hm),List.Pairwise.nil⟩ (by rw[dm];exact aN _);rw[dm]at ok;rw[show({ s with heap:=s.heap.push { cls:=.type "dict",data:=.dict #[]}}:aA).heap.objs.size=s.heap.objs.size+1 from dm ..];rw[List.forIn_nil];refine aJ<|aT<|aT ?_;exact hQ _ ((Heap.Ns.new s.heap<|.type "dict").keeps<|pushCells_keeps _ _) (λb o e=>pushCells_keeps _ _ b o<|aW _ e) ok
abbrev gQ (X:Cx)(scope:Scope)(N:ap)(C:aj)(s₀:aA)(H₀:Hp)(ex:ba):Cx where
 prog:=X.prog
 w:=X.w
 K:=X.K
 mg:=X.mg
 base:=X.base
 A:=X.A
 N:=N
 s₀:=s₀
 H₀:=H₀
 env:=compEnvC scope (cellsFrom (C+1) scope.names<|ny X.env scope.names []) C X.env
 outer:=X.stack
 stack:=X.stack
 ex:=ex
 fn:=λx=>scope.names.lookup x == some .cell
 calm:=X.calm
 pn:=[]
 xe:=λ_ _=>False
structure CpScope (X:Cx)(scope:Scope)(N:ap)(cap:List (bj)):Prop where
 kind:scope.kind=.function
 nocf:∀x,(x,NameKind.free)∈scope.names->(x,NameKind.cell)∉scope.names
 nm:∀y∈scope.names,y.2=.local->scope.names.lookup y.1=some .local
 fr:∀y∈scope.names,y.2=.free->X.env.kindOf y.1=some .cell\/X.env.kindOf y.1=some .free
 rl:∀y,((relabel scope X.env).names.lookup y=some .cell\/(relabel scope X.env).names.lookup y=some .free)->(y,NameKind.free)∈scope.names\/scope.names.lookup y=some .cell
 len:cap.length=N.length
 nolf:∀x,(x,NameKind.free)∈scope.names->scope.names.lookup x≠some .local
 cp:∀(i j:Nat) (x:Str),N[i]?=some x->cap[i]?=some (some j)->X.N[j]?=some x/\(x,NameKind.free)∈scope.names
def yJ{scope:Scope}{N:ap}{cap:List<|bj}{H:Hp}{s:aA}{fp:ba}{h₁:ak}{m:Str->be}{tk:Nat}(S:CpScope X scope N cap)(I:Inv X pins σ H s)
  (hf:∀b∈fp,kY X pins H b) (ho:∀b∈fp,∃o,s.heap.get? b=some o) (hn:h₁.Ns s.heap.objs.size m) (hC:CellsOk h₁ (s.heap.objs.size+1)<|cellsFrom (s.heap.objs.size+1) scope.names []) (hk:∀b o,s.heap.get? b=some o->h₁.get? b=some o) :
  Inv (gQ X scope N s.heap.objs.size s H fp) [] (cap.map<|E1 σ) H { s with heap:=h₁,toks:=tk }:=by
 k_ne;have W:∀x c,(ny X.env scope.names []).lookup x=some c->X.env.cells.lookup x=some c:=λx c e=>by
  rcases tO hfree e with z|z
  ·exact z
  ·cases z
 have f:∀x c,(cellsFrom (s.heap.objs.size+1) scope.names<|ny X.env scope.names []).lookup x=some c->((x,c)∈cellsFrom (s.heap.objs.size+1) scope.names []/\h₁.IsCell c none/\s.heap.objs.size+1<=c)\/X.env.cells.lookup x=some c:=λx c e=>by
  rcases GS e with z|z
  ·exact .inl ⟨b9 z,hC.empty x c<|b9 z⟩
  ·exact .inr<|W x c z.2
 have old:∀x c,X.env.cells.lookup x=some c->c<s.heap.objs.size:=λx c e=>by
  obtain⟨v,z⟩:=I.cell x c e;exact z.lt
 have lt:∀b o,s.heap.get? b=some o->b≠s.heap.objs.size:=λb o e=>bu<|aV e;refine⟨⟨I.ok.mod,?_,I.ok.glob,I.ok.blt,aN _,?_,?_,?_,I.ok.hd,I.ok.frames,.inl rfl,?_,I.bs,b6 I.ok.bsz I.sz,?_,?_,I.stack,I.z8⟩,rfl,I.bare,Un.kept hk,?_,?_,I.hok.fresh<|aN _,?_,?_,I.hok.kept hk,?_⟩
 ·exact S.kind
 ·intro x y c e1 e2
  rcases f x c e1 with a|a
  ·rcases f y c e2 with b|b
   ·exact name_of_addr hC.apart a.1 b.1
   ·exact absurd (old y c b)<|not_lt.mpr<|cE a.2.2
  ·rcases f y c e2 with b|b
   ·exact absurd (old x c a) (not_lt.mpr<|cE b.2.2)
   ·exact I.ok.inj x y c a b
 ·intro x e;refine c9.mp (dz _ _ _ ?_)
  rcases S.rl x e with hm|hm
  ·exact .inr (rW (env:=X.env) (cs:=[]) hm)
  ·exact .inl hm
 ·intro x c e F;have e:scope.names.lookup x=some .cell:=by
   have e:(scope.names.lookup x == some .cell)=true:=e;simpa using e
  obtain⟨d,hd⟩:=c9.mp<|dz scope.names (s.heap.objs.size+1) []<|.inl e;have F:(cellsFrom (s.heap.objs.size+1) scope.names<|ny X.env scope.names []).lookup x=some c:=F;rw[pJ,pW,hd]at F
  cases F
  exact cE (hC.empty x c<|b9 hd).2
 ·intro b hb;obtain⟨o,e⟩:=ho b hb;refine⟨lt b o e,λx c e2=>?_⟩
  rcases f x c e2 with z|z
  ·exact fZ (Nat.lt_trans (aV e) z.2.2)
  ·exact(hf b hb).2.2.2.2.1 x c z
 ·intro b o e hb;obtain⟨_,_,_,h3,_⟩:=hf b hb
  rcases h3 with z|z
  ·exact I.ok.noex b o e z
  ·exact absurd (bG (aV (I.ok.bs b o e).1) z)<|dX _
 ·intro b hb hz;obtain⟨_,h1,h2,_⟩:=hf b hb
  rcases br.mp (I.yo b hz)with z|z
  ·exact h1 z
  ·exact h2 z
 ·refine⟨m,hn,λi x v e1 e2 Y=>?_⟩;rw[aS]at e2
  cases hc:cap[i]? with
  | none=>rw[hc]at e2;cases e2
  | some Z=>
   rw[hc]at e2
   cases Z with
   | none=>cases e2
   | some j=>
    have t:(σ[j]?).getD none=some v:=aR e2;obtain⟨hj,hm⟩:=S.cp i j x e1 hc;obtain⟨m0,hn0,O⟩:=I.loc;have M:σ[j]?=some (some v):=by
     cases h:σ[j]? with
     | none=>rw[h]at t;cases t
     | some z=>rw[h,di]at t;rw[t]
    have J:=S.fr (x,.free) hm rfl;have hv:Lu X.env.scope x:=.inr J;obtain⟨u,ru,L⟩:=O j x v hj M hv;refine⟨u,ru,?_⟩
    rcases L with⟨L,_⟩|⟨_,c,F,ic⟩
    ·rcases J with z|z<;>(rw[z]at L;cases L)
    ·have h2:=rW (env:=X.env) (cs:=[]) hm;obtain⟨P,C⟩:=c9.mp h2;have:P=c:=aR<|(W x P C).symm.trans F;subst this;refine .inr ⟨?_,P,(IK<|S.nocf x hm).trans C,?_⟩
     ·rcases Y with z|z|z
      ·exfalso;have:(relabel scope X.env).names.lookup x=some .local:=z;have G:scope.names.lookup x=some .local:=by
        have K:∃k,(x,k)∈(relabel scope X.env).names/\k=.local:=by
         clear C h2;have:=sy this;exact⟨_,this,rfl⟩
        obtain⟨k,U,rfl⟩:=K;obtain⟨⟨n',k'⟩,V,g⟩:=cu.mp U;dsimp only at g;split at g
        ·cases g
        ·cases g
         exact S.nm (x,.local) V rfl
       exact False.elim<|S.nolf x hm G
      ·exact .inl z
      ·exact .inr z
     ·obtain⟨o,B,hd⟩:=ic;exact⟨o,hk _ _ B,hd⟩
 ·intro x c e
  rcases f x c e with z|z
  ·exact⟨_,z.2.1⟩
  ·obtain⟨v,o,B,hd⟩:=I.cell x c z;exact⟨v,o,hk _ _ B,hd⟩
 ·intro x c e
  rcases f x c e with z|z
  ·exact I.hok.fresh (cE z.2.2)
  ·exact I.freeC x c z
 ·intro p hp
  cases hp
 ·rw[aH,S.len];rfl
abbrev yb (X:Cx)(ifs:List aC)(t:TT):Prop:=
 ∀(pins:bn) (s:aA) (σ:St) (H:Hp) (Q:Bool->Hp->Prop),Inv X pins σ H s->t σ H Q ->
  wpAny (model X.prog X.w) X.A (forIn ifs true λc r=>if r=true then do let ok <- isTrue c X.env (eval c X.env);pure (ForInStep.yield ok)else pure (ForInStep.yield r)) (TP X pins σ Q) X.xe s
abbrev Nb:TT:=λ_ H Q=>Q true H
def G0:yb X [] Nb:=λ_ _ _ H _ I h=>wpAny_tests_nil ⟨H,I,h⟩
def Gg{c:aC}{t:TT}(h:PT X c t):yb X [c] t:=λpins s σ H Q I q=>wpAny_tests_one<|h pins s σ H Q I q
abbrev Jw (cap:List<|bj)(g:TG)(tc:TT)(te:TE)(σ:St)(Q:VK)(J:It)(H1:Hp):Prop:=∀D,H1 D=none ->
 ∃W:Nat->Nat->St->Hp->Prop,(∃m,W 0 m (cap.map<|E1 σ)<|upd H1 D<|.lst [])/\∀i m f H',W i m f H' ->
  (J.stop i H'/\Q (.ref D) H')\/(J.go i H'/\∀x H2,J.yld i H' x H2->g x f H2 λd k=>tc d k λb j=>
   if b=true then te d j λy H5=>∃ys,H5 D=some (.lst ys)/\ys.length<sizeLine/\∃m',m'<m/\W (i+1) m' d (upd H5 D<|.lst<|ys++[y])
   else ∃m',m'<m/\W (i+1) m' d j)
abbrev Lo (cap:List<|bj)(wi:TI)(g:TG)(tc:TT)(te:TE):TE:=λσ H Q=>wi σ H<|Jw cap g tc te σ Q
def p_{α:Type}{t:Sem α}{Q Q':α->aA->Prop}{A:au}{E:aa->aA->Prop}(h:wpAny M A t Q (λ_ _=>False) s)(hQ:∀a s,Q a s->Q' a s):wpAny M A t Q' E s:=
 cS h hQ λ_ _ f=>f.elim
structure TurnG (ok:Cx->Prop)(P:ah)(w:af)(K:aq)(tg:aC)(J:It)(fp:ba)(it:aj)(tn:Nat->ak->Prop):Prop where
 obj:∀i h,tn i h->∀b∈fp,∃o,h.get? b=some o/\∀v,o.data≠.cell v
 keep:∀i h h',tn i h->(∀b∈fp,∀o,h.get? b=some o->h'.get? b=some o)->tn i h'
 item:∀(X:Cx),X.prog=P->X.w=w->X.K=K->ok X->∀(i:Nat) (pins:bn) (s:aA) (σ:St) (H:Hp) (E:aa->aA->Prop),Inv X pins σ H s->(∀b∈fp,kY X pins H b)->tn i s.heap->J.go i H ->
  wpAny (model P w) X.A (pyNext<|.ref it) (λr s1=>∃u,r=some u /\
   wpAny (model P w) X.A (letOwnedTupleGo tg (.ref it) u) (λ_ s2=>∃x H',Inv X pins σ H' s2/\RelV x u/\J.yld i H x H'/\tn (i+1) s2.heap/\∀b∈fp,H' b=none) E s1) E s
 done:∀(X:Cx),X.prog=P->X.w=w->X.K=K->ok X->∀(i:Nat) (pins:bn) (s:aA) (σ:St) (H:Hp) (E:aa->aA->Prop),Inv X pins σ H s->(∀b∈fp,kY X pins H b)->tn i s.heap->J.stop i H ->
  wpAny (model P w) X.A (pyNext<|.ref it) (λr s1=>r=none/\Inv X pins σ H s1) E s
 self:∀(A:au) (i:Nat) (s:aA) (Q:aa->aA->Prop) (E:aa->aA->Prop),tn i s.heap->Q (.ref it) s->wpAny (model P w) A (pyIter<|.ref it) Q E s
abbrev Mu (ok:Cx->Prop)(X:Cx)(pins:bn)(σ:St)(tg:aC)(R:It->Hp->Prop)(itv:aa)(s2:aA):Prop:=
 ∃(it:aj) (fp:ba) (d:Nat->ak->Prop) (J:It) (H':Hp),itv=.ref it/\Inv X pins σ H' s2/\TurnG ok X.prog X.w X.K tg J fp it d/\d 0 s2.heap/\(∀b∈fp,kY X pins H' b)/\R J H'
abbrev ME (ok:Cx->Prop)(X:Cx)(tg iter:aC)(wi:TI):Prop:=
 ∀(pins:bn) (s:aA) (σ:St) (H:Hp) (R:It->Hp->Prop),Inv X pins σ H s->wi σ H R ->
  wpAny (model X.prog X.w) X.A (eval iter X.env) (λv d=>wpAny (model X.prog X.w) X.A (pyIter v) (Mu ok X pins σ tg R) X.xe d) X.xe s
def PI.g{iter:aC}{wi:TI}(h:PI X tg iter wi):ME (λY=>Y.calm=true) X tg iter wi:=λpins s σ H R I q=>
 iN (h pins s σ H R I q) λv k h1=>iN h1 λj m ⟨it,fp,f,J,H',e,d,T,a,b,c⟩=>⟨it,fp,f,J,H',e,d,⟨T.obj,T.keep,T.item,T.done,T.self⟩,a,b,c⟩
def zM{ok:Cx->Prop}{X:Cx}{use:Option<|aa->Sem Unit}{Q':aa->aA->Prop}{iter:aC}{N:ap}{wi:TI}{g:TG}{tc:TT}{te:TE}(S:CpScope X scope N cap)(hok:∀C s₀ H₀ ex,(∀a o u,X.H₀ a=some (.frz o u)->H₀ a=some (.frz o u))->ok (gQ X scope N C s₀ H₀ ex))(hi:ME ok X tg iter wi)
  (hg:∀C s₀ H₀ ex,PG (gQ X scope N C s₀ H₀ ex) tg g) (ht:∀C s₀ H₀ ex,yb (gQ X scope N C s₀ H₀ ex) ifs tc) (he:∀C s₀ H₀ ex,PE (gQ X scope N C s₀ H₀ ex) elt te)
  (hs:∀x,foldedSetIterable iter X.env x=pure x:=by intro _;rfl):∀(pins:bn) (s:aA) (σ:St) (H:Hp) (Q:VK),Inv X pins σ H s->Lo cap wi g tc te σ H Q ->
  (∀(s6:aA) (C D:aj) (H5:Hp) (m:Str->be),s6.heap.Ns C m->kY X pins H5 C->(∀h',Heap.SameBut C s6.heap h'->Inv X pins σ H5 { s6 with heap:=h' })->Q (.ref D) H5->∀v,compPost (model X.prog X.w) X.A X.xe use Q' (.ref D) C (.ok v) s6) ->
  wpAny (model X.prog X.w) X.A (comprehension (.ListComp elt [⟨tg,iter,ifs,0⟩] scope pos) scope X.env (firstIterPos [⟨tg,iter,ifs,0⟩] pos) (newList []) (firstAsync [⟨tg,iter,ifs,0⟩]) (firstIter [⟨tg,iter,ifs,0⟩] X.env) use) Q' X.xe s:=by
 intro pins s σ H Q I h P;k_ne;refine d7 (use:=use) rfl hs (oV hfree) S.kind S.nm<|iN (hi pins s σ H _ I h) λxv s1 h1=>iN h1 λitv f h2=>?_;obtain⟨it,fp,tn,J,H2,rfl,I2,T,st2,f2,h2⟩:=h2;refine cH<|vF λK j old k=>?_;obtain⟨W,⟨m0,w0⟩,O⟩:=h2 f.heap.objs.size I2.fresh;dsimp only at j old k ⊢;have I3:Inv X pins σ (upd H2 f.heap.objs.size<|.lst []) { f with heap:=f.heap.push {}}:=I2.D_ (t':=f.toks) (its:=[]) .nil<|cN _;have Y:∀b∈fp,∃o,f.heap.get? b=some o:=λb hb=>by
  obtain⟨o,e,_⟩:=T.obj 0 _ st2 b hb;exact⟨o,e⟩
 have neD:∀b∈fp,b≠f.heap.objs.size:=λb hb=>by
  obtain⟨o,e⟩:=Y b hb;exact bu<|aV e
 have f3:∀b∈fp,kY X pins (upd H2 f.heap.objs.size<|.lst []) b:=λb hb=>⟨by rw[gA<|neD b hb];exact(f2 b hb).1,(f2 b hb).2⟩;have hDC:f.heap.objs.size≠(f.heap.push {}).objs.size:=by rw[dm];exact bu (bw _)
 have I4:=yJ (tk:=f.toks+([]:List<|Str×aa).length) (fp:=fp) S I3 f3 (λb hb=>by
  obtain⟨o,e⟩:=Y b hb;exact⟨o,aW _ e⟩) j k old
 have V:tn 0 K:=T.keep _ _ _ st2 λb hb o e=>old b o<|aW _ e;have hc:=hok (f.heap.push {}).objs.size { f with heap:=f.heap.push {}} (upd H2 f.heap.objs.size<|.lst []) fp λa o u e=>by
  have z:=I2.base.frzs a o u e;rw[gA λq=>by rw[q,I2.fresh]at z;cases z];exact z
 have stat:∀{H':Hp},(∀b∈fp,H' b=none)->∀b∈fp,kY (gQ X scope N (f.heap.push {}).objs.size { f with heap:=f.heap.push {}} (upd H2 f.heap.objs.size<|.lst []) fp) [] H' b:=λhn b hb=>by
  have ok:=I4.ok;kcj_m
 have G:∀s4:aA,s4={ f with heap:=K,toks:=f.toks+([]:List<|Str×aa).length } ->
   codeAny (model X.prog X.w) X.A (.compLoop (.ListComp elt [⟨tg,iter,ifs,0⟩] scope pos) 0 (.ref it) (.ref f.heap.objs.size)<|compEnvC scope (cellsFrom ((f.heap.push {}).objs.size+1) scope.names<|ny X.env scope.names []) (f.heap.push {}).objs.size X.env)
    (compPost (model X.prog X.w) X.A X.xe use Q' (.ref f.heap.objs.size) (f.heap.push {}).objs.size) s4:=by
  rintro s4 rfl;refine fE rfl (λn s'=>∃i B H',Inv (gQ X scope N (f.heap.push {}).objs.size { f with heap:=f.heap.push {}} (upd H2 f.heap.objs.size<|.lst []) fp) [] B H' s'/\tn i s'.heap/\(∀b∈fp,H' b=none)/\W i n B H') (λn s5 hI=>?_) m0 ⟨0,_,_,I4,V,λb hb=>(f3 b hb).1,w0⟩;obtain⟨i,σ5,H5,I5,M,Z,w5⟩:=hI;show wpAny _ X.A ((compTurn (.ListComp elt [⟨tg,iter,ifs,0⟩] scope pos) 0 (.ref it) (.ref f.heap.objs.size)<|compEnvC scope (cellsFrom ((f.heap.push {}).objs.size+1) scope.names<|ny X.env scope.names []) (f.heap.push {}).objs.size X.env).onRaise λx=>do noteFrame x _;theTreesLotGoes x) _ _ s5;refine fN ?_;rw[compTurn_list];refine aJ (bW<|aJ ?_)
  rcases O i n σ5 H5 w5 with⟨U,q⟩|⟨go,step⟩
  ·refine iN (T.done (gQ X scope N (f.heap.push {}).objs.size { f with heap:=f.heap.push {}} (upd H2 f.heap.objs.size<|.lst []) fp) rfl rfl rfl hc i [] s5 σ5 H5 _ I5 (stat Z) M U) λr s6 h9=>?_;obtain⟨hr,I6⟩:=h9;subst hr;obtain⟨m6,hn6,_⟩:=I6.loc;refine aT<|P s6 _ _ H5 m6 hn6 (I3.sY (aN _) I6.free) (λh' sb=>?_) q _;have u6:=I6.base;have nC:∀b o,(f.heap.push {}).get? b=some o->b≠(f.heap.push {}).objs.size:=λb o e=>bu<|aV e;kd_p
   ·exact sb.extBut b o (nC b o e) (u6.keep b o e n hb hx)
   ·obtain⟨sl,z⟩:=u6.slot b o e n hb hx;exact⟨sl,sb.extBut b _ (nC b o e) z⟩
   ·exact u6.free b o e n hx
   ·obtain⟨o',z⟩:=u6.there b o e hx;exact⟨o',sb.extBut b _ (nC b o e) z⟩
   ·intro b o e;have hb:∀c v,H5 c=some v->c≠(f.heap.push {}).objs.size:=λc v e z=>by
     rw[z]at e;have:=I6.free;rw[show H5 (f.heap.push {}).objs.size=none from this]at e
     cases e
    refine(I6.hok b o e).stay (λc v hc q=>sb.extBut c v ?_ q) (λ_ q=>q) λ_ _ q=>q
    rcases hc with z|z
    ·rw[z];exact hb b o e
    ·exact hb c _ z
   ·intro b hb;obtain⟨_,z1,_,z3,z4,z5⟩:=f3 b hb;exact⟨z3,z1,z4,z5⟩
  ·refine iN (T.item (gQ X scope N (f.heap.push {}).objs.size { f with heap:=f.heap.push {}} (upd H2 f.heap.objs.size<|.lst []) fp) rfl rfl rfl hc i [] s5 σ5 H5 _ I5 (stat Z) M go) λr s6 h9=>?_;obtain⟨u,hr,h6⟩:=h9;subst hr;kcf_m;o_rec;kst_p;refine aJ<|p_ (ht _ _ _ fp _ s8 σ8 H8 _ I8 q8) λok s9 ⟨H9,I9,q9⟩=>?_;have F:∀{t:aA} {H10:Hp},Inv (gQ X scope N (f.heap.push {}).objs.size { f with heap:=f.heap.push {}} (upd H2 f.heap.objs.size<|.lst []) fp) ([]++mX fp s7.heap) σ8 H10 t->(∃m',m'<n/\W (i+1) m' σ8 H10) ->
     ∃m,m<n/\∃i B H',Inv (gQ X scope N (f.heap.push {}).objs.size { f with heap:=f.heap.push {}} (upd H2 f.heap.objs.size<|.lst []) fp) [] B H' t/\tn i t.heap/\(∀b∈fp,H' b=none)/\W i m B H':=λ{t H10} I10 h9=>by
    obtain⟨m',hm,w10⟩:=h9;kj_on;obtain⟨o,e,d⟩:=T.obj _ _ st7 b hb;cb_eq
   cases ok with
   | false=>
    rw[aZ bh]at q9;exact aT ⟨rfl,F I9 q9⟩
   | true=>
    rw[aX rfl]at q9;refine aJ<|aJ<|p_ (he _ _ _ fp _ s9 σ8 H9 _ I9 q9) λy t ⟨L,H10,I10,r10,ys,hD,hz,w10⟩=>?_;refine aJ<|p_ (qH _ t σ8 H10 (.ref f.heap.objs.size) [L] _ [y] (λ_ H'=>H'=upd H10 f.heap.objs.size (.lst<|ys++[L])) I10 rfl (.cons r10 .nil) ⟨_,ys,L,rfl,rfl,hD,hz,rfl⟩) λ_ s11 ⟨_,H11,I11,_,e11⟩=>?_;subst e11;exact aT<|aT ⟨rfl,F I11 w10⟩
 exact codeAny_compStart_list (G _ rfl)<|T.self _ 0 _ _ _ V<|G _ rfl
def J7{ok:Cx->Prop}{X:Cx}{iter:aC}{N:ap}{wi:TI}{g:TG}{tc:TT}{te:TE}(S:CpScope X scope N cap)(hok:∀C s₀ H₀ ex,(∀a o u,X.H₀ a=some (.frz o u)->H₀ a=some (.frz o u))->ok (gQ X scope N C s₀ H₀ ex))(hi:ME ok X tg iter wi)
  (hg:∀C s₀ H₀ ex,PG (gQ X scope N C s₀ H₀ ex) tg g) (ht:∀C s₀ H₀ ex,yb (gQ X scope N C s₀ H₀ ex) ifs tc) (he:∀C s₀ H₀ ex,PE (gQ X scope N C s₀ H₀ ex) elt te)
  (hs:∀x,foldedSetIterable iter X.env x=pure x:=by intro _;rfl):PE X (.ListComp elt [⟨tg,iter,ifs,0⟩] scope pos) (Lo cap wi g tc te):=by
 fin2;rw[eval_ListComp];exact zM (use:=none) (Q':=EP X pins σ Q) S hok hi hg ht he hs pins s σ H Q I h λj C D H5 m hn k d q v=>⟨m,hn,λh' f=>⟨.ref D,H5,d h' f,rfl,q⟩⟩
def Lr{X:Cx}{iter:aC}{N:ap}{wi:TI}{g:TG}{tc:TT}{te:TE}(hc:X.calm=true)(S:CpScope X scope N cap)(hi:PI X tg iter wi)
  (hg:∀C s₀ H₀ ex,PG (gQ X scope N C s₀ H₀ ex) tg g) (ht:∀C s₀ H₀ ex,yb (gQ X scope N C s₀ H₀ ex) ifs tc) (he:∀C s₀ H₀ ex,PE (gQ X scope N C s₀ H₀ ex) elt te)
  (hs:∀x,foldedSetIterable iter X.env x=pure x:=by intro _;rfl):PE X (.ListComp elt [⟨tg,iter,ifs,0⟩] scope pos) (Lo cap wi g tc te):=
 J7 S (λ_ _ _ _ _=>hc) hi.g hg ht he hs
section
variable {X:Cx}
def Ec{bs:List Bool}:∀{us:ar},Vals (bs.map V.bl) us->LSm.BoolsAre us bs:=by
 induction bs with
 | nil=>intro us r;cases r;exact .nil
 | cons b bs d=>
  intro us r
  cases r with
  | cons h t=>
   have e:_=Value.bool b:=h;subst e;exact .cons b<|d t
def A_(hc:X.calm=true):ir X (.builtin "all") (λxs H Q=>∃(p:aj) (bs:List Bool),xs=[.ref p]/\jh X.K H p (bs.map V.bl)/\Q (.bl<|bs.all id) H):=by
 gn_on;obtain⟨p,bs,rfl,t,q⟩:=h;obtain⟨u,rfl,rx⟩:=vals1 r
 cases rx
 obtain⟨d,z,m,G⟩:=I.list t;have hb:=Ec z;have f:=m.isList;have g:p<s.heap.objs.size:=by obtain⟨_,e,_⟩:=f;exact aV e
 refine call_all_walk<|wpAny_pyIter_list f ?_;refine⟨s.heap.objs.size,[s.heap.objs.size,p],[s.heap.objs.size],d.toArray.size,_,_,λi=>(bs[i]?).getD true,rfl,Walks.list (A:=X.A.in1) (I.ok.hd hc) _ p (bu g) d.toArray,
  ⟨⟨_,bR _ rfl,rfl,rfl⟩,f.push _⟩,λi v s' C B hP j=>?_,λh' F k=>?_⟩
 ·obtain⟨b,e,rfl⟩:=hb.get i v (by simpa using hP);dsimp[e,di]at j;exact c6 j
 ·have e:((List.range d.toArray.size).all λi=>(bs[i]?).getD true)=bs.all id:=by
   rw[aU,hb.length];exact LSm.range_all bs
  rw[e];exact⟨.bl _,H,I.kept<|LSm.kept_iter k,rfl,q⟩
def vj:ir X (.builtin "sorted") (λxs H Q=>∃(p:aj) (ns:ag),xs=[.ref p]/\(jh X.K H p (ns.map V.int)\/kO X.K H p (ns.map V.int))/\ns.length<64 /\
  ∀l (ns':ag),H l=none->ns'.Perm ns->ns'.Pairwise (·<=·)->Q (.ref l) (upd H l<|.lst<|ns'.map V.int)):=by
 gn_on;obtain⟨p,ns,rfl,z,Y,q⟩:=h;obtain⟨u,rfl,rx⟩:=vals1 r
 cases rx
 have J:∀(d:ar) (T:String) (o:Obj) (n:Nat),(T = "list" \/ T = "tuple")->s.heap.get? p=some o->o.cls=.type T->o.data=.seq d.toArray n->Vals (ns.map V.int) d ->
   wpAny (model X.prog X.w) X.A (call (.builtin "sorted") [.ref p]) (EP X pins σ Q) X.xe s:=by
  intro d T o n N t f hd j;have L:=intsAre_of j;have k:d.length=ns.length:=by have:=j.length;rw[aH]at this;exact this.symm
  refine Calls.call_function_entry kind_sorted plain_sorted entry_sorted (args_sorted1 _) ?_;unfold Builtin.«sorted»;refine aJ (m:=checkCount "sorted" 1 1 _)<|aT ?_;refine aJ (wpAny_collect_seq p N t f hd (λh' M=>?_)<|by rw[aU,k,cG];lia);refine aJ<|wpAny_newList ?_;have g:(h'.push<|seqObj "list" d.toArray 0).get? h'.objs.size=some (seqObj "list" d.toArray 0):=bR _ rfl
  skip
  refine aJ<|cM<|wpAny_call_entry slot_list_sort ⟨_,g,rfl⟩ entry_list_sort (list_sort_tree g L () λout ns' U G O=>⟨_,rfl,?_⟩)<|args_list_sort _;obtain⟨e,P⟩:=sortedHeap_at (out:=out) g;have F:ns'.length=ns.length:=G.length_eq;have I1:Inv X pins σ H { s with heap:=h' }:=I.kept (t':=s.toks) M;have old:∀b ob,h'.get? b=some ob->(sortedHeap (h'.push<|seqObj "list" d.toArray 0) h'.objs.size d out).get? b=some ob:=λb ob C=>by
   rw[sortedHeap_old (bu<|aV C)<|by rw[dm];exact Nat.lt_succ_of_lt<|aV C];exact aW _ C
  refine aT ⟨_,rfl,.ref h'.objs.size,_,I1.laid (t':=s.toks) (o:=.lst<|ns'.map V.int) old (aN _) ?_,rfl,q _ ns' (I1.hok.fresh<|aN _) G O⟩;refine⟨by rw[aH,F,cG];lia,out.toList,e,qw U,?_⟩;rw[P]
 rcases z with z|z
 ·obtain⟨d,j,B,W⟩:=I.list z;obtain⟨o,t,f,n,hd⟩:=B.isList;exact J d "list" o n (.inl rfl) t f hd j
 ·obtain⟨d,j,B,W⟩:=I.tuple z;obtain⟨o,t,f,n,hd⟩:=B;exact J d "tuple" o n (.inr rfl) t f hd j
def Jk:jZ X (compareOp .Is) (λx y H Q=>∃a b,x=.bl a/\y=.bl b/\Q (.bl<|a == b) H):=by
 kt_k;obtain⟨a,b,rfl,rfl,q⟩:=h
 cases rx;cases ry
 exact is_bool ⟨.bl _,H,I,rfl,q⟩
def u_:ir X (.type "range") (λxs H Q=>∃i j,xs=[.int i,.int j]/\∀p,H p=none->Q (.ref p) (upd H p<|.rng i j)):=by
 gn_on;obtain⟨i,j,rfl,q⟩:=h;obtain⟨u,f,rfl,⟨t,rfl⟩,⟨d,rfl⟩⟩:=vals2 r;refine call_range_2 ⟨.ref s.heap.objs.size,_,I.laid (o:=.rng i j) (λb o e=>aW _ e) (aN _) ?_,rfl,q _ I.fresh⟩;exact⟨t,d,s.toks,bR _ rfl⟩
abbrev iw (i j:Int):ag:=(List.range (j-i).toNat).map λk:Nat=>i+(k:Int)
def kF(i j:Int):(iw i j).length=(j-i).toNat:=by unfold iw;rw[aH,fO]
def x_{i:Int}{n:Nat}{acc:Array aa}(h:ItemsOf (λk v=>∃t,v=Value.int (i+(k:Int) * 1) t) acc n):Vals (((List.range n).map λk:Nat=>i+(k:Int)).map V.int) acc.toList:=by
 obtain⟨hs,hv⟩:=h;have d:∀(l:ar) (b:Nat),(∀j v,l[j]?=some v->∃t,v=Value.int (i+((b+j:Nat):Int)) t)->Vals (((List.range' b l.length).map λk:Nat=>i+(k:Int)).map V.int) l:=by
  intro l
  induction l with
  | nil=>intro b _;exact .nil
  | cons v l f=>
   intro b hb;rw[bB,List.range'_succ,bH,bH];refine .cons ?_ ?_
   ·obtain⟨t,e⟩:=hb 0 v rfl;exact⟨t,by rw[e];simp⟩
   ·refine f (b+1) λj w hw=>?_;obtain⟨t,e⟩:=hb (j+1) w hw;exact⟨t,by rw[e,show b+(j+1)=b+1+j by lia]⟩
 have:=d acc.toList 0 λj v g=>by
  obtain⟨t,e⟩:=hv j v (by simpa using g);exact⟨t,by rw[e,Nat.zero_add,Int.mul_one]⟩
 rw[dc,hs,<- List.range_eq_range']at this;exact this
def JQ{i j:Int}:Builtin.Range.rangeSize i j 1=(((j-i).toNat:Nat):Int):=by rw[rangeSize_one];split<;>omega
def tu(hc:X.calm=true):ir X (.type "list") (λxs H Q=>∃p i j,xs=[.ref p]/\H p=some (.rng i j)/\(-(2 ^ 62)<=i/\i<2 ^ 62/\-(2 ^ 62)<=j/\j<2 ^ 62)/\(j-i).toNat<=1000/\∀l,H l=none->Q (.ref l) (upd H l<|.lst<|(iw i j).map V.int)):=by
 gn_on;obtain⟨p,i,j,rfl,hp,⟨g,C,z,B⟩,hn,q⟩:=h;obtain⟨u,rfl,rx⟩:=vals1 r
 cases rx
 obtain⟨t,J,v,e⟩:=I.hok p _ hp;refine call_list_range (n:=(j-i).toNat) (I.ok.hd hc) e (small_one g C z B) JQ () λh' G d m k F f=>?_;refine⟨.ref s.heap.objs.size,_,I.laid (o:=.lst<|(iw i j).map V.int) k (aN _) ⟨?_,d.toList,m,x_ f,by rw[F]⟩,rfl,q _ I.fresh⟩;rw[aH,kF,cG];lia
end
section
variable {X:Cx}
abbrev Np (K:aq)(te:TE):TE:=λσ H Q=>te σ H λx H1=>∃a xs,x=.ref a/\jh K H1 a xs/\∀p,H1 p=none->Q (.ref p) (upd H1 p<|.lst xs.reverse)
def GV{te:TE}{cp:Pos}(he:PE X e te):PE X (.Subscript e (.Slice none none (some<|.UnaryOp .USub (.Constant (.int 1) kk cp) up) p2) pos) (Np X.K te):=by
 fin2;refine Subscript_<|iN (he pins s σ H _ I h) λv m ⟨x,H1,I1,r1,a,xs,ex,B,q⟩=>?_;subst ex
 cases r1
 refine wpAny_Slice ?_;rw[evalPart_none];refine aT ?_;refine aT ?_;rw[evalPart_some];refine iN ((DU (a:=.Constant (.int 1) kk cp) xY yi) pins m σ H1 (λv H'=>v=.int (-1)/\H'=H1) I1 ⟨1,rfl,rfl,rfl⟩) λG d h9=>?_;obtain⟨y,F,I3,r3,k,z⟩:=h9;subst k z;obtain⟨t,rfl⟩:=r3;have I4:Inv X pins σ F { d with heap:=d.heap.push { cls:=.type "slice",data:=.fields #[.none,.none,.int (-1) t]}}:=I3.kept (t':=d.toks) λb ob q=>aW _ q;obtain⟨its,j,g,C⟩:=I4.list B
 skip
 refine tail_any (ops:=[.ref a,.ref d.heap.objs.size]) g.isList.typeIs slot_list_getitem.lookup ?_ (by with_unfolding_all rfl);have f:=j.length;refine wpAny_getItem_list_slice g.isList (Heap.IsSliceOf.new ..) .none .none (.int (-1) t) ⋯ ?_ (by rw[aU]<;>lia);rw[PySem.W.krv_pick];refine⟨.ref _,_,I4.D_ (t':=d.toks) (ys:=xs.reverse) (its:=its.reverse) j.reverse<|by rw[fB];exact C,rfl,q _ I4.fresh⟩
def wQ:ir X (.builtin "isinstance") (λxs H Q=>∃x t b,xs=[x,.ty c]/\TyOf X.K H x t/\PySem.W.kitOne X.K t (.type c)=some b/\Q (.bl b) H):=by
 gn_on;obtain⟨x,t,b,rfl,ty,e,q⟩:=h;obtain⟨u,g,rfl,rx,f⟩:=vals2 r
 cases f
 exact BL I rx ty e λd=>⟨.bl b,H,I.tok d,rfl,q⟩
abbrev Ka (K:aq):R2:=λx y H Q=>∃a b ys,x=.ref a/\y=.ref b/\kO K H a []/\kO K H b ys/\Q (.ref b) H
def CF:jZ X (binaryOp .Add) (Ka X.K):=by
 kt_k;obtain⟨a,b,ys,rfl,rfl,h1,h2,q⟩:=h
 cases rx
 cases ry
 obtain⟨us,r1,p1,_⟩:=I.tuple h1;obtain⟨C,r2,p2,_⟩:=I.tuple h2
 cases r1
 obtain⟨⟨cls,F,data,G⟩,z,hc,n,hd⟩:=id p1;obtain⟨⟨t,m,k,j⟩,d,g,B,f⟩:=id p2;simp only at hc hd g f;subst hc hd g f;exact concat_meets ⟨_,z,rfl⟩ ⟨_,d,rfl⟩ noFill_tuple_add seq_tuple_add eo eg (dZ _ _)
   (tuple_addW0 a b _ C.toArray n B F m G j<|by simp) ⟨z,d,⟨.ref b,H,I,rfl,q⟩⟩
end
def iD:bootBuiltins "len" = some (.builtin "len"):=by decide +kernel
def r8:bootBuiltins "all" = some (.builtin "all"):=by decide +kernel
def Fp:bootBuiltins "max" = some (.builtin "max"):=by decide +kernel
def JK:bootBuiltins "min" = some (.builtin "min"):=by decide +kernel
def uv:bootBuiltins "sorted" = some (.builtin "sorted"):=by decide +kernel
def iE:bootBuiltins "isinstance" = some (.builtin "isinstance"):=by decide +kernel
def yv:bootBuiltins "int" = some (.type "int"):=by decide +kernel
def Aq:bootBuiltins "bool" = some (.type "bool"):=by decide +kernel
def kc:bootBuiltins "list" = some (.type "list"):=by decide +kernel
def C2:bootBuiltins "range" = some (.type "range"):=by decide +kernel
structure Blt (mg:Str->be):Prop where
 len:mg "len" = none
 abs:mg "abs" = none
 all:mg "all" = none
 any:mg "any" = none
 max:mg "max" = none
 min:mg "min" = none
 sorted:mg "sorted" = none
 isinstance:mg "isinstance" = none
 int:mg "int" = none
 bool:mg "bool" = none
 str:mg "str" = none
 list:mg "list" = none
 tuple:mg "tuple" = none
 range:mg "range" = none
def Gk:∀{a b:ag},a.Perm b->a.Pairwise (·<=·)->b.Pairwise (·<=·)->a=b:=λp d hb=>
 List.Perm.eq_of_pairwise (λx y _ _ h1 h2=>gb h1 h2) d hb p
def yf(i j:Int):(iw i j).Nodup:=by
 unfold iw;rw[List.Nodup,eB];exact List.pairwise_lt_range.imp λh=>()
def kI{i j k:Int}:k∈iw i j ↔ i<=k/\k<j:=by
 unfold iw;rw[cu];constructor
 ·rintro⟨a,d,rfl⟩;have:=fF.mp d;omega
 ·rintro⟨h1,h2⟩;exact⟨(k-i).toNat,fF.mpr<|by omega,by omega⟩
abbrev Kn (P:ah)(w:af)(K:aq)(mg:Str->be)(base:ak)(k:Nat)(x:Str)(ps:ap)(sp:Sp):Prop:=
 ∃(f:aj) (fd:FuncData),FnOk P w K mg base nU k f fd ps sp/\mg x=some (.ref f)/\PySem.W.keepIn K (.ref f)=true/\Binds K fd ps []
def Le{X:Cx}{k:Nat}{x:Str}{sp:Sp}{t:TA}{p:Pos}(G:Kn X.prog X.w X.K X.mg X.base k x ps sp)(hr:Room k X.A)(ha:PA X (e::es) t)(hg:Gl X x:=by rfl)
  (hdb:(x == ("__debug__" : Str))=false:=by decide) (hs:starEach (e::es) X.env=(false,eval e X.env)::starEach es X.env:=by rfl) (hplain:(backTo pos<|starEach es X.env).any (·.1)=false:=by rfl) :
  PE X (.Call (.Name x p) (e::es) [] pos) (G6 sp [] E0 t):=by
 obtain⟨f,fd,F,hm,d,hb⟩:=G;exact FU F hr hg hm d hb .nil LM ha hdb hs hplain
abbrev r6 (XN fs:ap):ap->List (bj)->Prop
 | [],[]=>True
 | _::N,none::c=>r6 XN fs N c
 | x::N,some j::c=>XN[j]?=some x/\x∈fs/\r6 XN fs N c
 | _,_=>False
theorem r6.len{fs:ap}:∀{N:ap}{c:List<|bj},r6 XN fs N c->c.length=N.length
 | [],[],_=>rfl
 | _::N,none::c,h=>b_ (·+1) (r6.len (N:=N) (c:=c) h)
 | _::N,some j::c,h=>b_ (·+1) (r6.len (N:=N) (c:=c) h.2.2)
 | [],_::_,h=>h.elim
 | _::_,[],h=>h.elim
theorem r6.cp{fs:ap}:∀{N:ap}{c:List<|bj},r6 XN fs N c->∀(i j:Nat) (x:Str),N[i]?=some x->c[i]?=some (some j)->XN[j]?=some x/\x∈fs
 | [],[],_,i,j,x,h1,_=>by simp at h1
 | y::N,none::c,h,i,j,x,h1,h2=>by
  cases i with
  | zero=>simp at h2
  | succ i=>exact r6.cp (N:=N) (c:=c) h i j x (by simpa using h1)<|by simpa using h2
 | y::N,some k::c,h,i,j,x,h1,h2=>by
  cases i with
  | zero=>
   simp at h1 h2;subst h1 h2;exact⟨h.1,h.2.1⟩
  | succ i=>exact r6.cp (N:=N) (c:=c) h.2.2 i j x (by simpa using h1)<|by simpa using h2
 | [],_::_,h,_,_,_,_,_=>h.elim
 | _::_,[],h,_,_,_,_,_=>h.elim
def lE{X:Cx}{scope:Scope}{N:ap}(fs:ap)(kind:scope.kind=.function)(nocf:∀y∈scope.names,y.2=.cell->scope.names.lookup y.1=some .cell/\(y.1,NameKind.free)∉scope.names)(nm:∀y∈scope.names,y.2=.local->scope.names.lookup y.1=some .local)
  (nolf:∀y∈scope.names,y.2=.free->scope.names.lookup y.1≠some .local) (hf:∀y∈scope.names,y.2=.free->y.1∈fs) (hfs:∀x∈fs,(x,NameKind.free)∈scope.names) (hk:∀x∈fs,X.env.kindOf x=some .cell\/X.env.kindOf x=some .free) (cp:r6 X.N fs N cap):CpScope X scope N cap where
 kind:=kind
 nocf:=λx hf hc=>(nocf (x,.cell) hc rfl).2 hf
 nm:=nm
 fr:=λy hy e=>hk _ (hf y hy e)
 rl:=λy h=>by
  have g:∀k,(k=NameKind.cell\/k=NameKind.free)->(relabel scope X.env).names.lookup y=some k->(y,NameKind.free)∈scope.names\/scope.names.lookup y=some .cell:=λk hk e=>by
   obtain⟨⟨t,m⟩,f,d⟩:=cu.mp<|sy e;dsimp only at d;split at d
   ·rename_i hc
    cases d
    have:m=.free:=by
     dsimp[dR]at hc;simpa using hc.1.1
    subst this;exact .inl f
   ·cases d
    rcases hk with rfl|rfl
    ·exact .inr (nocf _ f rfl).1
    ·exact .inl f
  rcases h with h|h
  ·exact g _ (.inl rfl) h
  ·exact g _ (.inr rfl) h
 len:=cp.len
 nolf:=λx hx=>nolf (x,.free) hx rfl
 cp:=λi j x h1 h2=>by
  obtain⟨a,b⟩:=cp.cp i j x h1 h2;exact⟨a,hfs x b⟩
inductive Kd where
 | non|bl|int|str|lst|tup
 deriving DecidableEq
abbrev Kd.ty:Kd->aa
 | .non=>.type "NoneType" | .bl=>.type "bool" | .int=>.type "int" | .str=>.type "str" | .lst=>.type "list" | .tup=>.type "tuple"
abbrev IT (H:Hp)(x:V):Kd->Prop
 | .non=>x=.non
 | .bl=>∃b,x=.bl b
 | .int=>∃i,x=.int i
 | .str=>∃s,x=.str s
 | .lst=>∃a xs,x=.ref a/\H a=some (.lst xs)
 | .tup=>∃a xs,x=.ref a/\H a=some (.tup xs)
def IT.MW{K:aq}{H:Hp}{x:V}{k:Kd}(h:IT H x k):TyOf K H x k.ty:=by
 cases k with
 | non=>cases h;exact .non
 | bl=>obtain⟨b,rfl⟩:=h;exact .bl b
 | int=>obtain⟨b,rfl⟩:=h;exact .int b
 | str=>obtain⟨b,rfl⟩:=h;exact .str b
 | lst=>obtain⟨a,xs,rfl,e⟩:=h;exact .lst e
 | tup=>obtain⟨a,xs,rfl,e⟩:=h;exact .tup e
def GR{K:aq}(k:Kd):PySem.W.kitOne K k.ty (.type "int")=some (decide<|k=.int\/k=.bl):=by cases k<;>rfl
def Fv{K:aq}(k:Kd):PySem.W.kitOne K k.ty (.type "bool")=some (decide<|k=.bl):=by cases k<;>rfl
def kit_tuple{K:aq}(k:Kd):PySem.W.kitOne K k.ty (.type "tuple")=some (decide<|k=.tup):=by cases k<;>rfl
def Eb{K:aq}(k:Kd):PySem.W.kitOne K k.ty (.type "list")=some (decide<|k=.lst):=by cases k<;>rfl
def vh:bootBuiltins "enumerate" = some (.type "enumerate"):=by decide +kernel
section
variable {prog:ah}{w:af}{A:au}{E:aa->aA->Prop}{s:aA}
def yr(n:Nat):Builtin.Slice.sliceAdjust none none (-1) (n:Int)=((n:Int)-1,-1):=by
 unfold Builtin.Slice.sliceAdjust;rfl
def yg(n:Nat):Builtin.Slice.slicePlaces ((n:Int)-1) (-1) (-1)=n:=by
 unfold Builtin.Slice.slicePlaces;have h1:¬((-1:Int)>0):=by decide
 dsimp[h1,fJ];by_cases h:n=0
 ·subst h;simp
 ·rw[aX ()];rw[show(- -1:Int)=1 by decide,Int.ediv_one]
  lia
def qD{n:Nat}{Q:Int×Int×Nat->aA->Prop}(hs:s.heap.IsSliceOf sl .none .none<|.int (-1) t)
  (h:Q ((n:Int)-1,-1,n) s):wpAny (model prog w) A (Builtin.Slice.sliceApplied (.ref sl)<|pure (n:Int)) Q E s:=by
 obtain⟨os,f,k,d⟩:=id hs;unfold Builtin.Slice.sliceApplied Builtin.Slice.sliceFields;refine aJ<|aJ<|wpAny_field f d (x:=.none) rfl<|aJ<|wpAny_field f d (x:=.none) rfl<|aJ<|wpAny_field f d (x:=.int (-1) t) rfl<|aT ?_;refine aJ (slicePart_int ?_)
 skip
 rw[aZ ⋯];refine aJ<|slicePart_none<|aJ<|slicePart_none<|aJ<|aT ?_;show wpAny _ _ (match Builtin.Slice.sliceAdjust none none (-1) (n:Int)with|(g,j)=>pure (g,(-1:Int),Builtin.Slice.slicePlaces g j<|-1)) _ _ s;rw[yr n];show wpAny _ _ (pure ((n:Int)-1,(-1:Int),Builtin.Slice.slicePlaces ((n:Int)-1) (-1)<|-1)) _ _ s;rw[yg];exact aT h
def Fb(xs:Array aa):((List.range xs.size).filterMap λ(m:Nat)=>xs[((xs.size:Int)-1+(m:Int) * (-1)).toNat]?).toArray=xs.toList.reverse.toArray:=by
 have e:(λ(m:Nat)=>xs[((xs.size:Int)-1+(m:Int) * (-1)).toNat]?)=(λx=>xs[x]?) ∘ λk=>xs.size-1-k:=by
  funext m
  have:((xs.size:Int)-1+(m:Int) * (-1)).toNat=xs.size-1-m:=()
  show xs[((xs.size:Int)-1+(m:Int) * (-1)).toNat]?=xs[xs.size-1-m]?;rw[this]
 rw[e,<- List.filterMap_map,PySem.W.krv_range,List.filterMap_reverse,PySem.W.krv_all]
def pR{items:Array aa}{Q:aa->aA->Prop}(ht:IsTup s.heap t items)(hs:s.heap.IsSliceOf sl .none .none<|.int (-1) tk)
  (h:Q (.ref s.heap.objs.size) { s with heap:=s.heap.push { cls:=.type "tuple",data:=.seq items.toList.reverse.toArray }})
  (hsz:items.size<=sizeLine):wpAny (model prog w) A (getItem (.ref t)<|.ref sl) Q E s:=by
 have d:sizeOk (.seq items.toList.reverse.toArray):=by
  show items.toList.reverse.toArray.size<=sizeLine;rw[aU,fB,dc];exact hsz
 obtain⟨os,g,j,z⟩:=id hs;have f:s.TypeIs (.ref sl) "slice" := ⟨os,g,j⟩;unfold getItem
 try with_reducible refine cM ?_
 first|refine aJ (aT ?_)|skip
 refine aJ<|wpAny_sequenceKey ht.typeIs ⋯ ?_;refine aJ (wpAny_callSpecial?_slot (name:=Str.ofString "__getitem__") ht.typeIs c_
  (wpAny_call_entry c_ ht.typeIs entry_tuple_getitem ?_<|args_tuple_getitem _ _))
 show wpAny _ _ (Builtin.Tuple.tupleItemsOf (.ref t) >>= _) _ _ s;refine aJ<|tupleItemsOf_ ht ?_;refine aJ<|wpAny_typeOf f ?_;rw[aX ⋯];refine aJ<|qD hs ?_;have k:¬((((items.size:Int)-1) == 0 && (-1:Int) == 1 && items.size == items.size)=true):=by
  intro q;rw[dR,dR]at q;exact absurd q.1.2 ⋯
 show wpAny _ _ (if (((items.size:Int)-1) == 0 && (-1:Int) == 1 && items.size == items.size)=true then _ else _) _ _ s;rw[aZ k,Fb]
 first
  | exact aJ (m:=Builtin.Tuple.tupleExact _) (cH (aT ⟨_,rfl,aT h⟩) d)
  | exact aJ (m:=Builtin.Tuple.tupleExact _) (cH (aJ<|aT<|aT ⟨_,rfl,aT h⟩) d)
  | exact aJ (aJ (m:=Builtin.Tuple.tupleExact _)<|cH (aT<|aT ⟨_,rfl,aT h⟩) d)
  | exact aJ<|aJ (m:=Builtin.Tuple.tupleExact _)<|cH (aT ⟨_,rfl,aT h⟩) d
end
section
variable {X:Cx}
abbrev LP (K:aq)(te:TE):TE:=λσ H Q=>te σ H λx H1=>∃a xs,x=.ref a/\kO K H1 a xs/\∀p,H1 p=none->Q (.ref p) (upd H1 p<|.tup xs.reverse)
def zm{te:TE}{cp:Pos}(he:PE X e te):PE X (.Subscript e (.Slice none none (some<|.UnaryOp .USub (.Constant (.int 1) kk cp) up) p2) pos) (LP X.K te):=by
 fin2;refine Subscript_<|iN (he pins s σ H _ I h) λv B ⟨x,H1,I1,r1,a,xs,ex,F,q⟩=>?_;subst ex
 cases r1
 refine wpAny_Slice ?_;rw[evalPart_none];refine aT ?_;refine aT ?_;rw[evalPart_some];refine iN ((DU (a:=.Constant (.int 1) kk cp) xY yi) pins B σ H1 (λv H'=>v=.int (-1)/\H'=H1) I1 ⟨1,rfl,rfl,rfl⟩) λL d h9=>?_;obtain⟨y,J,I3,r3,z,C⟩:=h9;subst z C;obtain⟨t,rfl⟩:=r3;have g:Inv X pins σ J { d with heap:=d.heap.push { cls:=.type "slice",data:=.fields #[.none,.none,.int (-1) t]}}:=I3.kept (t':=d.toks) λb ob q=>aW _ q;obtain⟨f,m,k,G⟩:=g.tuple F
 skip
 refine tail_any (ops:=[.ref a,.ref d.heap.objs.size]) k.typeIs c_.lookup ?_ (by with_unfolding_all rfl);have j:=m.length;refine pR k (Heap.IsSliceOf.new ..) ?_ (by rw[aU]<;>lia);refine⟨.ref _,_,g.laid (t':=d.toks) (o:=.tup xs.reverse) (λb o e=>aW _ e) (aN _) ⟨by rw[fB];exact G,f.reverse,m.reverse,?_⟩,rfl,q _ g.fresh⟩;exact l8.new _ _
end
def vC(elt t1 i1 t2 i2:aC)(f1 f2:List aC)(scope:Scope)(pos:Pos)(it acc:aa)(env:Env) :
  compTurn (.ListComp elt [⟨t1,i1,f1,0⟩,⟨t2,i2,f2,0⟩] scope pos) 0 it acc env=(do
   standAt i1.pos
   match <- pyNext it with
   | none=>pure (.done .next)
   | some v=>
    letOwnedTupleGo t1 it v
    assign t1 env v
    let mut ok:=true
    for c in f1 do
     if ok then ok <- isTrue c env (eval c env)
    if ok then
     let x <- eval i2 env
     standAt i2.pos
     let x <- foldedSetIterable i2 env x
     let _ <- runOwn (.compStart (.ListComp elt [⟨t1,i1,f1,0⟩,⟨t2,i2,f2,0⟩] scope pos) 1 (<- holding [x] (pyIter x)) acc env) env
    again (.compLoop (.ListComp elt [⟨t1,i1,f1,0⟩,⟨t2,i2,f2,0⟩] scope pos) 0 it acc env)):=by rfl
def uI(elt t1 i1 t2 i2:aC)(f1 f2:List aC)(scope:Scope)(pos:Pos)(it acc:aa)(env:Env) :
  compTurn (.ListComp elt [⟨t1,i1,f1,0⟩,⟨t2,i2,f2,0⟩] scope pos) 1 it acc env=(do
   standAt i2.pos
   match <- pyNext it with
   | none=>pure (.done .next)
   | some v=>
    letOwnedTupleGo t2 it v
    assign t2 env v
    let mut ok:=true
    for c in f2 do
     if ok then ok <- isTrue c env (eval c env)
    if ok then
     (do let _ <- call (.builtin "list.append") [acc,<- eval elt env])
    again (.compLoop (.ListComp elt [⟨t1,i1,f1,0⟩,⟨t2,i2,f2,0⟩] scope pos) 1 it acc env)):=by rfl
section
variable {prog:ah}{w:af}{A:au}{R:Result->aA->Prop}{s:aA}
def nA{f1 f2:List aC}{env:Env}
  (h0:codeAny (model prog w) A (.compLoop (.ListComp elt [⟨t1,i1,f1,0⟩,⟨t2,i2,f2,0⟩] scope pos) 1 it acc env) R s)
  (h:wpAny (model prog w) A (pyIter it) (λit' s'=>codeAny (model prog w) A (.compLoop (.ListComp elt [⟨t1,i1,f1,0⟩,⟨t2,i2,f2,0⟩] scope pos) 1 it' acc env) R s')
   (notedBy (model prog w) A env λx s'=>R (.error x) s') s) :
  codeAny (model prog w) A (.compStart (.ListComp elt [⟨t1,i1,f1,0⟩,⟨t2,i2,f2,0⟩] scope pos) 1 it acc env) R s:=by
 refine codeAny_of_tree ?_
 skip
 refine wpAny_notedAt ?_;unfold compStart
 skip
 refine aJ<|wpAny_askSetting<|wpAny_ite ?_;split
 ·first
   | exact aJ (aT<|aT<|anI rfl h0)
   | exact aT<|anI rfl h0
 ·first
   | exact aJ (fK<|aJ<|bW<|aJ<|cS h (λit' s' h'=>aT<|anI rfl h') λ_ _ x=>x)
   | (refine aJ<|fK ?_;show wpAny _ _ (standAt i2.pos >>= _) _ _ s;exact aJ<|bW<|aJ<|cS h (λit' s' h'=>aT<|anI rfl h') λ_ _ x=>x)
end
abbrev EE (g:TG)(tc:TT)(te:TE)(D:aj)(Nn:L2.St->Hp->Prop)(σ:L2.St)(J:It)(H1:Hp):Prop:=
 ∃V:Nat->Nat->L2.St->Hp->Prop,(∃m,V 0 m σ H1)/\∀i m f H',V i m f H' ->
  (J.stop i H'/\Nn f H')\/(J.go i H'/\∀x H2,J.yld i H' x H2->g x f H2 λd k=>tc d k λb j=>
   if b=true then te d j λy H5=>∃ys,H5 D=some (.lst ys)/\ys.length<sizeLine/\∃m',m'<m/\V (i+1) m' d (upd H5 D<|.lst<|ys++[y])
   else ∃m',m'<m/\V (i+1) m' d j)
def yq{Z:Cx}{f1:List aC}{fp:ba}{tn:Nat->ak->Prop}{H:Hp}{s:aA}{g:TG}{tc:TT}{te:TE}{Nn:L2.St->Hp->Prop}
  (hc:Z.calm=true) (hxe:Z.xe=λ_ _=>False) (T:Turn Z.prog Z.w Z.K tg J fp it tn) (I:Inv Z pins σ H s) (st:tn 0 s.heap) (hf:∀b∈fp,kY Z pins H b) (hg:PG Z tg g) (ht:yb Z ifs tc) (he:PE Z elt te) (goal:EE g tc te D Nn σ J H) :
  codeAny (model Z.prog Z.w) Z.A (.compLoop (.ListComp elt [⟨t1,i1,f1,0⟩,⟨tg,i2,ifs,0⟩] scope pos) 1 (.ref it) (.ref D) Z.env) (λr s'=>r=.ok .next/\∃σ' H',Inv Z pins σ' H' s'/\Nn σ' H') s:=by
 obtain⟨V,⟨m0,v0⟩,B⟩:=goal;have stat:∀{H':Hp},(∀b∈fp,H' b=none)->∀b∈fp,kY Z pins H' b:=λhn b hb=>⟨hn b hb,(hf b hb).2⟩;refine fE rfl (λn s'=>∃i σ' H',Inv Z pins σ' H' s'/\tn i s'.heap/\(∀b∈fp,H' b=none)/\V i n σ' H') (λn s5 hI=>?_) m0 ⟨0,σ,H,I,st,λb hb=>(hf b hb).1,v0⟩;obtain⟨i,σ5,H5,U,C,G,w5⟩:=hI
 skip
 refine fN ?_;rw[uI];refine aJ (bW<|aJ ?_)
 rcases B i n σ5 H5 w5 with⟨F,q⟩|⟨go,step⟩
 ·refine iN (T.done Z rfl rfl rfl hc i pins s5 σ5 H5 _ U (stat G) C F) λr s6 h9=>?_;obtain⟨P,I6⟩:=h9;subst P;exact aT ⟨rfl,σ5,H5,I6,q⟩
 ·refine iN (T.item Z rfl rfl rfl hc i pins s5 σ5 H5 _ U (stat G) C go) λr s6 h9=>?_;obtain⟨u,P,h6⟩:=h9;subst P;kcf_m;o_rec;have k:∀{α:Type} {t:Sem α} {Q W:α->aA->Prop} {E:aa->aA->Prop} {s:aA},wpAny (model Z.prog Z.w) Z.A t Q Z.xe s->(∀a s,Q a s->W a s)->wpAny (model Z.prog Z.w) Z.A t W E s:=λh hQ=>by
   rw[hxe]at h;exact p_ h hQ
  refine aJ<|k (hg _ s7 σ5 H7 x u _ I7' r7<|step x H7 y7) λ_ s8 ⟨σ8,H8,I8,q8⟩=>?_;refine aJ<|k (ht _ s8 σ8 H8 _ I8 q8) λok s9 ⟨H9,Y,L⟩=>?_;have j:∀{f:aA} {H10:Hp},Inv Z (pins++mX fp s7.heap) σ8 H10 f->(∃m',m'<n/\V (i+1) m' σ8 H10) ->
    ∃m,m<n/\∃i σ' H',Inv Z pins σ' H' f/\tn i f.heap/\(∀b∈fp,H' b=none)/\V i m σ' H':=λ{f H10} I10 h9=>by
   obtain⟨m',hm,w10⟩:=h9;kj_on;obtain⟨o,e,d⟩:=T.obj _ _ st7 b hb;cb_eq
  cases ok with
  | false=>
   rw[aZ bh]at L;exact aT ⟨rfl,j Y L⟩
  | true=>
   rw[aX rfl]at L;refine aJ<|aJ<|k (he _ s9 σ8 H9 _ Y L) λy f ⟨z,H10,I10,O,ys,hD,hz,w10⟩=>?_;refine aJ<|k (qH _ f σ8 H10 (.ref D) [z] _ [y] (λ_ H'=>H'=upd H10 D (.lst<|ys++[z])) I10 rfl (.cons O .nil) ⟨_,ys,z,rfl,rfl,hD,hz,rfl⟩) λ_ s11 ⟨_,H11,M,_,N⟩=>?_;subst N;exact aT<|aT ⟨rfl,j M w10⟩
abbrev GY (cap:List<|bj)(g:TG)(tc:TT)(wi2:TI)(g2:TG)(tc2:TT)(te:TE)(σ:L2.St)(Q:VK)(J:It)(H1:Hp):Prop:=∀D,H1 D=none ->
 ∃W:Nat->Nat->L2.St->Hp->Prop,(∃m,W 0 m (cap.map<|E1 σ)<|upd H1 D<|.lst [])/\∀i m f H',W i m f H' ->
  (J.stop i H'/\Q (.ref D) H')\/(J.go i H'/\∀x H2,J.yld i H' x H2->g x f H2 λd k=>tc d k λb j=>
   if b=true then wi2 d j (EE g2 tc2 te D (λσ5 H5=>∃m',m'<m/\W (i+1) m' σ5 H5) d)
   else ∃m',m'<m/\W (i+1) m' d j)
abbrev Mt (cap:List<|bj)(wi:TI)(g:TG)(tc:TT)(wi2:TI)(g2:TG)(tc2:TT)(te:TE):TE:=λσ H Q=>wi σ H<|GY cap g tc wi2 g2 tc2 te σ Q
def JN{X:Cx}{iter:aC}{N:ap}{wi wi2:TI}{g g2:TG}{tc tc2:TT}{te:TE}(hc:X.calm=true)(S:CpScope X scope N cap)(hi:PI X tg iter wi)
  (hg:∀C s₀ H₀ ex,PG (gQ X scope N C s₀ H₀ ex) tg g) (ht:∀C s₀ H₀ ex,yb (gQ X scope N C s₀ H₀ ex) ifs tc) (hi2:∀C s₀ H₀ ex,PI (gQ X scope N C s₀ H₀ ex) tg2 iter2 wi2)
  (hg2:∀C s₀ H₀ ex,PG (gQ X scope N C s₀ H₀ ex) tg2 g2) (ht2:∀C s₀ H₀ ex,yb (gQ X scope N C s₀ H₀ ex) ifs2 tc2) (he:∀C s₀ H₀ ex,PE (gQ X scope N C s₀ H₀ ex) elt te)
  (hs:∀x,foldedSetIterable iter X.env x=pure x:=by intro _;rfl) (hs2:∀env x,foldedSetIterable iter2 env x=pure x:=by intro _ _;rfl):PE X (.ListComp elt [⟨tg,iter,ifs,0⟩,⟨tg2,iter2,ifs2,0⟩] scope pos) (Mt cap wi g tc wi2 g2 tc2 te):=by
 fin2;k_ne;rw[eval_ListComp];refine d7 (use:=none) rfl hs (oV hfree) S.kind S.nm<|iN (hi pins s σ H _ I h) λxv s1 h1=>iN h1 λitv f h2=>?_;obtain⟨it,fp,tn,J,H2,rfl,I2,T,st2,f2,h2⟩:=h2;refine cH<|vF λO k old t=>?_;obtain⟨W,⟨m0,w0⟩,V⟩:=h2 f.heap.objs.size I2.fresh;dsimp only at k old t ⊢;have I3:Inv X pins σ (upd H2 f.heap.objs.size<|.lst []) { f with heap:=f.heap.push {}}:=I2.D_ (t':=f.toks) (its:=[]) .nil<|cN _;have hfp:∀b∈fp,∃o,f.heap.get? b=some o:=λb hb=>by
  obtain⟨o,e,_⟩:=T.obj 0 _ st2 b hb;exact⟨o,e⟩
 have neD:∀b∈fp,b≠f.heap.objs.size:=λb hb=>by
  obtain⟨o,e⟩:=hfp b hb;exact bu<|aV e
 have f3:∀b∈fp,kY X pins (upd H2 f.heap.objs.size<|.lst []) b:=λb hb=>⟨by rw[gA<|neD b hb];exact(f2 b hb).1,(f2 b hb).2⟩;have hDC:f.heap.objs.size≠(f.heap.push {}).objs.size:=by rw[dm];exact bu (bw _)
 have I4:=yJ (tk:=f.toks+([]:List<|Str×aa).length) (fp:=fp) S I3 f3 (λb hb=>by
  obtain⟨o,e⟩:=hfp b hb;exact⟨o,aW _ e⟩) k t old
 have st4:tn 0 O:=T.keep _ _ _ st2 λb hb o e=>old b o<|aW _ e;have stat:∀{H':Hp},(∀b∈fp,H' b=none)->∀b∈fp,kY (gQ X scope N (f.heap.push {}).objs.size { f with heap:=f.heap.push {}} (upd H2 f.heap.objs.size<|.lst []) fp) [] H' b:=λhn b hb=>by
  have ok:=I4.ok;kcj_m
 have L:∀s4:aA,s4={ f with heap:=O,toks:=f.toks+([]:List<|Str×aa).length } ->
   codeAny (model X.prog X.w) X.A (.compLoop (.ListComp elt [⟨tg,iter,ifs,0⟩,⟨tg2,iter2,ifs2,0⟩] scope pos) 0 (.ref it) (.ref f.heap.objs.size)<|compEnvC scope (cellsFrom ((f.heap.push {}).objs.size+1) scope.names<|ny X.env scope.names []) (f.heap.push {}).objs.size X.env)
    (compPost (model X.prog X.w) X.A X.xe none (EP X pins σ Q) (.ref f.heap.objs.size) (f.heap.push {}).objs.size) s4:=by
  rintro s4 rfl;refine fE rfl (λn s'=>∃i B H',Inv (gQ X scope N (f.heap.push {}).objs.size { f with heap:=f.heap.push {}} (upd H2 f.heap.objs.size<|.lst []) fp) [] B H' s'/\tn i s'.heap/\(∀b∈fp,H' b=none)/\W i n B H') (λn s5 hI=>?_) m0 ⟨0,_,_,I4,st4,λb hb=>(f3 b hb).1,w0⟩;obtain⟨i,σ5,H5,I5,U,fr5,w5⟩:=hI;show wpAny _ X.A ((compTurn (.ListComp elt [⟨tg,iter,ifs,0⟩,⟨tg2,iter2,ifs2,0⟩] scope pos) 0 (.ref it) (.ref f.heap.objs.size)<|compEnvC scope (cellsFrom ((f.heap.push {}).objs.size+1) scope.names<|ny X.env scope.names []) (f.heap.push {}).objs.size X.env).onRaise λx=>do noteFrame x _;theTreesLotGoes x) _ _ s5;refine fN ?_;rw[vC];refine aJ (bW<|aJ ?_)
  rcases V i n σ5 H5 w5 with⟨stop,q⟩|⟨go,step⟩
  ·refine iN (T.done (gQ X scope N (f.heap.push {}).objs.size { f with heap:=f.heap.push {}} (upd H2 f.heap.objs.size<|.lst []) fp) rfl rfl rfl hc i [] s5 σ5 H5 _ I5 (stat fr5) U stop) λr s6 h9=>?_;obtain⟨hr,I6⟩:=h9;subst hr;obtain⟨m6,hn6,_⟩:=I6.loc;refine aT ⟨m6,hn6,λh' sb=>?_⟩;have u6:=I6.base;have nC:∀b o,(f.heap.push {}).get? b=some o->b≠(f.heap.push {}).objs.size:=λb o e=>bu<|aV e;refine⟨.ref f.heap.objs.size,H5,?_,rfl,q⟩;kd_p
   ·exact sb.extBut b o (nC b o e) (u6.keep b o e n hb hx)
   ·obtain⟨sl,z⟩:=u6.slot b o e n hb hx;exact⟨sl,sb.extBut b _ (nC b o e) z⟩
   ·exact u6.free b o e n hx
   ·obtain⟨o',z⟩:=u6.there b o e hx;exact⟨o',sb.extBut b _ (nC b o e) z⟩
   ·intro b o e;have hb:∀c v,H5 c=some v->c≠(f.heap.push {}).objs.size:=λc v e z=>by
     rw[z]at e;have:=I6.free;rw[show H5 (f.heap.push {}).objs.size=none from this]at e
     cases e
    refine(I6.hok b o e).stay (λc v hc q=>sb.extBut c v ?_ q) (λ_ q=>q) λ_ _ q=>q
    rcases hc with z|z
    ·rw[z];exact hb b o e
    ·exact hb c _ z
   ·intro b hb;obtain⟨_,z1,_,z3,z4,z5⟩:=f3 b hb;exact⟨z3,z1,z4,z5⟩
  ·refine iN (T.item (gQ X scope N (f.heap.push {}).objs.size { f with heap:=f.heap.push {}} (upd H2 f.heap.objs.size<|.lst []) fp) rfl rfl rfl hc i [] s5 σ5 H5 _ I5 (stat fr5) U go) λr s6 h9=>?_;obtain⟨u,hr,h6⟩:=h9;subst hr;kcf_m;o_rec;kst_p;refine aJ<|p_ (ht _ _ _ fp _ s8 σ8 H8 _ I8 q8) λok s9 ⟨H9,I9,q9⟩=>?_;have K:∀{G:aA} {H10:Hp} {j:L2.St},Inv (gQ X scope N (f.heap.push {}).objs.size { f with heap:=f.heap.push {}} (upd H2 f.heap.objs.size<|.lst []) fp) ([]++mX fp s7.heap) j H10 G->(∃m',m'<n/\W (i+1) m' j H10) ->
     ∃m,m<n/\∃i B H',Inv (gQ X scope N (f.heap.push {}).objs.size { f with heap:=f.heap.push {}} (upd H2 f.heap.objs.size<|.lst []) fp) [] B H' G/\tn i G.heap/\(∀b∈fp,H' b=none)/\W i m B H':=λ{G H10 j} I10 h9=>by
    obtain⟨m',hm,w10⟩:=h9;refine⟨m',hm,i+1,j,H10,I10.jt,T.keep _ _ _ st7 λb hb o e=>(I10.pin (b,o)<|aP _<|aP _<|ig hb e).1,λb hb=>?_,w10⟩;obtain⟨o,e,d⟩:=T.obj _ _ st7 b hb;cb_eq
   cases ok with
   | false=>
    rw[aZ bh]at q9;exact aT ⟨rfl,K I9 q9⟩
   | true=>
    rw[aX rfl]at q9;refine aJ<|p_ (hi2 _ _ _ fp _ s9 σ8 H9 _ I9 q9) λxv G h10=>aJ<|bW ?_;rw[hs2];refine aJ<|aT<|aJ<|cM<|p_ h10 λitv s11 h11=>?_;obtain⟨it2,fp2,tn2,J2,H11,rfl,P,T2,M,f11,goal⟩:=h11;have hcz:=hc;have F:=(λ(Z:Cx) (h1:Z.calm=true) (h2:Z.xe=λ_ _=>False) T2 P=>yq (Z:=Z) (t1:=tg) (i1:=iter) (f1:=ifs) (i2:=iter2) (scope:=scope) (pos:=pos) h1 h2 T2 P) _ (show(gQ X scope N _ _ _ fp).calm=true from hcz) rfl T2 P M f11 (hg2 _ _ _ fp) (ht2 _ _ _ fp) (he _ _ _ fp) goal;refine aJ<|wpAny_runOwn<|fD (nA F<|T2.self _ 0 _ _ _ M F) λr s12 Y=>?_;obtain⟨hr,σ12,H12,I12,n12⟩:=Y;subst hr;exact aT ⟨rfl,K I12 n12⟩
 exact codeAny_compStart_list (L _ rfl)<|T.self _ 0 _ _ _ st4<|L _ rfl
end L2
namespace L2
open PySem PySem.Spec PyProof.Rows
open PySem.SeqAt
open PySem.AutoSeq1 (wpAny_loadPart')
open PySem.MeetsSeq PySem.MeetsSeq2 PySem.MeetsSeq3 PySem.SeqAt
section
variable {X:Cx}
def B9:jZ X (binaryOp .FloorDiv) (rI (λ_ j=>0<j/\j<18446744073709551616) λi j=>.int<|i / j):=Mb λi j _ _ _ _ _ hc q=>by
 have h1:(0:Int)<j:=hc.1;have h2:j<18446744073709551616:=hc.2;refine floordiv_int (by omega) (by rw[Int.fdiv_eq_ediv_of_nonneg i<|by omega];exact q)<|.inl<|PyProof.noPylong_of_log2 ?_;exact bG ((Nat.log2_lt<|by omega).mpr<|show j.natAbs<2 ^ 64 by omega) ⋯
end
end L2
namespace L2
open PySem PySem.Spec PyProof.Rows
abbrev Na (x:Str):It:=⟨λi _=>i<x.cps.size,λi H v H'=>H'=H/\∃c,x.cps[i]?=some c/\v=.str ⟨#[c]⟩,λi _=>i=x.cps.size⟩
def Ew{P:ah}{w:af}{K:aq}(x:Str)(t:Tok)(it:aj):Turn P w K tg (Na x) [it] it (λi h=>h.IsStrIter it "str_ascii_iterator" x t i) where
 mem:=by simp
 obj:=λi h st b hb=>by
  have e:b=it:=by simpa using hb
  subst e;obtain⟨o,e,c,d⟩:=st;exact⟨o,e,λv z=>by rw[d]at z;cases z⟩
 keep:=λi h h' st k=>let⟨o,ho,r⟩:=st;⟨o,k it (by simp) o ho,r⟩
 item:=by
  room;subst hP hw hK;w_up;have W:=Walks.strAscii (prog:=X.prog) (w:=X.w) (I.ok.hd hc) it x t;refine W.item i s _ _ hg st λv h' j hv f g=>?_;obtain⟨c,u,m,rfl⟩:=hv;have I1:Inv X pins σ H { s with heap:=h',toks:=j }:=I.turned (λb o hb e=>g b o (by simpa using hb) e) f0 f1 f3 f4 f5;obtain⟨o,e,B,d⟩:=id f;exact⟨_,rfl,xJ (s:={ s with heap:=h',toks:=j }) e B d ⋯ ⟨.str ⟨#[c]⟩,H,I1,⟨u,rfl⟩,⟨rfl,c,m,rfl⟩,f,λb hb=>(hf b hb).1⟩⟩
 done:=by
  room;subst hP hw hK;w_up;have hg:i=x.cps.size:=hg;subst hg;have W:=Walks.strAscii (prog:=X.prog) (w:=X.w) (I.ok.hd hc) it x t;exact W.done s _ _ st λh' j g=>⟨rfl,I.turned (λb o hb e=>g b o (by simpa using hb) e) f0 f1 f3 f4 f5⟩
 self:=λ_ _ _ _ _ st h=>wpAny_pyIter_striter_ascii st h
section
variable {X:Cx}{tg:aC}
abbrev ML (tl:TE):TI:=λσ H R=>tl σ H λx H1=>∃y:Str,x=.str y/\y.cps.all (· < 128)=true/\R (Na y) H1
def Jy{tl:TE}(hl:PE X l tl):PI X tg l (ML tl):=by
 intro pins s σ H R I h;refine iN (hl pins s σ H _ I h) λv d h9=>?_;obtain⟨x,H1,I1,r1,g⟩:=h9;obtain⟨y,e,f,q⟩:=g;subst e;obtain⟨t,rfl⟩:=r1;refine wpAny_pyIter_ascii f ?_;refine⟨d.heap.objs.size,[d.heap.objs.size],_,_,H1,rfl,I1.kept (t':=d.toks) λb o e=>aW _ e,Ew y t _,⟨_,bR _ rfl,rfl,rfl⟩,λb hb=>?_,q⟩;have e:b=d.heap.objs.size:=by simpa using hb
 subst e;mg_lt
def BO:ir X (.type "int") (λxs H Q=>∃(y:Str) (n:Int),xs=[.str y]/\y.length<=640/\PySem.intText? y=some n/\Q (.int n) H):=by
 intro pins s σ H xs us Q I g h;obtain⟨y,n,rfl,f,hn,q⟩:=h;obtain⟨w,rfl,d⟩:=vals1 g;obtain⟨u,rfl⟩:=d;exact PySem.W.KIN.call_text hn f ⟨.int n,H,I.tok _,⟨_,rfl⟩,q⟩
end
section
variable {κ:Type}[DecidableEq κ]
abbrev qc (kvs:List<|κ×V)(k:κ):Option V:=(kvs.find? λd=>decide<|d.1=k).map (·.2)
abbrev putK (kvs:List<|κ×V)(k:κ)(v:V):List (κ×V):=
 if (kvs.any λd=>decide<|d.1=k)=true then kvs.map (λd=>if d.1=k then(d.1,v)else d)else kvs++[(k,v)]
def qj{p:κ×V}{r:List<|κ×V}{k:κ}(e:p.1=k):qc (p::r) k=some p.2:=by simp[qc,cA,e]
def pP{p:κ×V}{r:List<|κ×V}{k:κ}(e:¬p.1=k):qc (p::r) k=qc r k:=by simp[qc,cA,e]
theorem rR(k:κ):∀kvs:List<|κ×V,(kvs.any λkv=>decide<|kv.1=k)=(qc kvs k).isSome
 | []=>rfl
 | p::r=>by
  rw[dD];by_cases e:p.1=k
  ·dsimp[qj e,a_ e,Bool.true_or,isSome_some]
  ·rw[pP e,bz e,Bool.false_or];exact rR k r
def qS(kvs:List<|κ×V)(k:κ)(v:V):(putK kvs k v).length<=kvs.length+1:=by
 unfold putK;split
 ·rw[aH];lia
 ·rw[aM,bB,gc];lia
def sD.Ba{o:Option V}{u:be}(r:sD o u):o.isSome=u.isSome:=by
 cases o with
 | none=>cases u with
  | none=>rfl
  | some _=>exact(show False from r).elim
 | some _=>cases u with
  | none=>exact(show False from r).elim
  | some _=>rfl
def KV.val(r:KV kvs vs)(k:κ):sD (qc kvs k) (valueAt vs k):=by
 unfold KV at r
 induction r with
 | nil=>exact True.intro
 | @cons p q ps f h t g=>
  obtain⟨h1,h2⟩:=h;by_cases e:p.1=k
  ·have d:q.1=k:=h1.symm.trans e;have b:valueAt (q::f) k=some q.2:=by simp[valueAt,cA,d]
   rw[qj e,b];exact h2
  ·have d:¬q.1=k:=λz=>e<|h1.trans z;have b:valueAt (q::f) k=valueAt f k:=by simp[valueAt,cA,d]
   rw[pP e,b];exact g
def KV.any{kvs:List<|κ×V}{vs:List<|κ×aa}(r:KV kvs vs)(k:κ):(kvs.any λkv=>decide<|kv.1=k)=vs.any λkv=>decide (kv.1=k):=by
 unfold KV at r
 induction r with
 | nil=>rfl
 | cons h t d=>rw[dD,dD,d,h.1]
def KV.repl{kvs:List<|κ×V}{vs:List<|κ×aa}(r:KV kvs vs)(k:κ)(ry:RelV y u) :
  KV (kvs.map λkv=>if kv.1=k then(kv.1,y)else kv) (vs.map λkv=>if kv.1=k then(kv.1,u)else kv):=by
 unfold KV at r ⊢
 induction r with
 | nil=>exact .nil
 | @cons p q ps f h t d=>
  rw[bH,bH];refine .cons ?_ d;obtain⟨h1,h2⟩:=h;by_cases e:p.1=k
  ·rw[aX e,aX<|h1.symm.trans e];exact⟨h1,ry⟩
  ·rw[aZ e,aZ λz=>e<|h1.trans z];exact⟨h1,h2⟩
def KV.put(r:KV kvs vs)(k:κ)(ry:RelV y u):KV (putK kvs k y) (stored vs k u):=by
 unfold putK stored;rw[r.any k];by_cases e:(vs.any λd=>decide<|d.1=k)=true
 ·rw[aX e,aX e];exact r.repl k ry
 ·rw[aZ e,aZ e];exact Paired.snoc r ⟨rfl,ry⟩
def KV.length{kvs:List<|κ×V}{vs:List<|κ×aa}(r:KV kvs vs):kvs.length=vs.length:=fR r
end
def Dp{P:ah}{w:af}{k:Key}(r:RelV (kV k) u):(iW P w).is k u=true:=by
 cases k with
 | inl i=>obtain⟨t,e⟩:=(show ∃t,u=Value.int i t from r);subst e;exact v8 P w i t
 | inr x=>obtain⟨t,e⟩:=(show ∃t,u=Value.str x t from r);subst e;exact wz P w x t
theorem tX{P:ah}{w:af}:∀{ks:List Key}{us:ar},Vals (ks.map kV) us->ItemsAre (iW P w) ks us
 | [],_,r=>by rw[cK]at r;cases r;exact .nil
 | k::ks,_,r=>by
  rw[bH]at r
  cases r with
  | cons h t=>exact .cons (Dp h)<|tX t
meta abbrev KT (H:Hp):List (List Key×V)->List (List Key×aj×aa)->Prop:=Paired λp q=>p.1=q.1/\H q.2.1=some (.tup<|p.1.map kV)/\RelV p.2 q.2.2
def KT.val{H:Hp}(r:KT H kvs xs)(k:List Key):sD (qc kvs k) ((atKey xs k).map (·.2)):=by
 induction r with
 | nil=>exact True.intro
 | @cons p q ps f h t g=>
  obtain⟨h1,_,h2⟩:=h;by_cases e:p.1=k
  ·have d:q.1=k:=h1.symm.trans e;have b:atKey (q::f) k=some q.2:=by simp[atKey,cA,d]
   rw[qj e,b];exact h2
  ·have d:¬q.1=k:=λz=>e<|h1.trans z;have b:atKey (q::f) k=atKey f k:=by simp[atKey,cA,d]
   rw[pP e,b];exact g
def KT.repl{H:Hp}{kvs:List<|List Key×V}{xs:List<|List Key×aj×aa}(r:KT H kvs xs)(k:List Key)(ry:RelV y u) :
  KT H (kvs.map λkv=>if kv.1=k then(kv.1,y)else kv) (xs.map<|putAt k u):=by
 induction r with
 | nil=>exact .nil
 | @cons p q ps g h t d=>
  rw[bH,bH];refine .cons ?_ d;obtain⟨h1,h2,f⟩:=h;unfold putAt;by_cases e:p.1=k
  ·rw[aX e,aX<|h1.symm.trans e];exact⟨h1,h2,ry⟩
  ·rw[aZ e,aZ λz=>e<|h1.trans z];exact⟨h1,h2,f⟩
def KT.put{H:Hp}(r:KT H kvs xs)(k:List Key)(hb:H b=some (.tup<|k.map kV))(ry:RelV y u) :
  KT H (putK kvs k y) (storedH xs k b u):=by
 have e:(kvs.any λd=>decide<|d.1=k)=(atKey xs k).isSome:=by
  rw[rR,(r.val k).Ba,Option.isSome_map]
 unfold putK storedH;rw[e];by_cases q:(atKey xs k).isSome=true
 ·rw[aX q,aX q];exact r.repl k ry
 ·rw[aZ q,aZ q];exact Paired.snoc r ⟨rfl,hb,ry⟩
def KT.keeps{H H':Hp}(r:KT H kvs xs)(ht:∀b ys,H b=some (.tup ys)->H' b=some (.tup ys)):KT H' kvs xs:=
 Paired.JD r λ_ _ z=>⟨z.1,ht _ _ z.2.1,z.2.2⟩
section
variable {P:ah}{w:af}{H:Hp}{h:ak}{a:aj}
def HF(ok:pN P w H h)(e:Rd H a u):iJ P w H h a u:=e.ok ok
def zF{kvs:List<|Key×V}(ok:pN P w H h)(e:Rd H a<|.dK kvs):kvs.length<=sizeLine/\(a == sysModules)=false/\∃vs,KV kvs vs/\h.DictOf (iW P w) a vs:=
 show iJ P w H h a (.dK kvs)from HF ok e
def LD{kvs:List<|Key×V}(ok:pN P w H h)(e:H a=some (.dK kvs)):kvs.length<=sizeLine/\(a == sysModules)=false/\∃vs,KV kvs vs/\h.DictOf (iW P w) a vs:=zF ok<|.inl e
def yH{ks:List Key}(ok:pN P w H h)(e:H a=some (.tup<|ks.map kV)):(tupleKind<|iW P w).is h ks a:=by
 obtain⟨_,d,r,o,h1,h2,_,n,f⟩:=(show iJ P w H h a (.tup<|ks.map kV)from ok a _ e);exact⟨o,d.toArray,n,h1,h2,f,by simpa using tX r⟩
def CB{kvs:List<|List Key×V}(ok:pN P w H h)(e:Rd H a<|.dT kvs):kvs.length<=sizeLine/\(a == sysModules)=false /\
  ∃xs,KT H kvs xs/\h.DictOfH (tupleKind<|iW P w) a xs:=by
 obtain⟨z,y,xs,r,o,es,k,h1,h2,j,B,f⟩:=(show iJ P w H h a (.dT kvs)from HF ok e);refine⟨z,y,xs,r,o,es,k,h1,h2,j,B,λx hx=>?_,f⟩;have all:∀{l:List<|List Key×V} {m:List<|List Key×aj×aa},KT H l m->∀x∈m,(tupleKind<|iW P w).is h x.1 x.2.1:=by
  intro l m q
  induction q with
  | nil=>intro x hx;exact nomatch hx
  | @cons p q ps C d t g=>
   intro x hx
   rcases br.mp hx with e|hx
   ·subst e;exact yH ok (by rw[<- d.1];exact d.2.1)
   ·exact g x hx
 exact all r x hx
def Lh{kvs:List<|List Key×V}(ok:pN P w H h)(e:H a=some (.dT kvs)):kvs.length<=sizeLine/\(a == sysModules)=false /\
  ∃xs,KT H kvs xs/\h.DictOfH (tupleKind<|iW P w) a xs:=CB ok<|.inl e
end
abbrev yG (H:Hp)(a:aj)(y:V)(r:Option V):Prop:=
 (∃kvs k,Rd H a (.dK kvs)/\y=kV k/\r=qc kvs k)\/∃kvs k b,Rd H a (.dT kvs)/\y=.ref b/\H b=some (.tup<|k.map kV)/\r=qc kvs k
abbrev BJ (H:Hp)(a:aj)(y v:V)(H':Hp):Prop:=
 (∃kvs k,H a=some (.dK kvs)/\y=kV k/\kvs.length<sizeLine/\H'=upd H a (.dK<|putK kvs k v)) \/
 ∃kvs k b,H a=some (.dT kvs)/\y=.ref b/\H b=some (.tup<|k.map kV)/\kvs.length<sizeLine/\H'=upd H a (.dT<|putK kvs k v)
theorem yG.k{H:Hp}{a:aj}{k:Key}(e:H a=some (.dK kvs)):yG H a (kV k) (qc kvs k):=.inl ⟨kvs,k,.inl e,rfl,rfl⟩
theorem BJ.k{H:Hp}{a:aj}{kvs:List<|Key×V}{k:Key}{v:V}(e:H a=some (.dK kvs))(hl:kvs.length<sizeLine):BJ H a (kV k) v (upd H a<|.dK<|putK kvs k v):=.inl ⟨kvs,k,e,rfl,hl,rfl⟩
section
variable {X:Cx}{pins:bn}{σ:St}{H:Hp}{s:aA}{a:aj}{y v:V}{u:aa}{o:Option V}{A:au}{E:aa->aA->Prop}
def Inv.big(I:Inv X pins σ H s):sysModules<s.heap.objs.size:=by
 have h:mainGlobals<s.heap.objs.size:=(I.mod.glob.keeps I.bk).lt;exact Nat.lt_trans ⋯ h
def Bv{Q:aa->aA->Prop}(hu:A.units+1<cLine)(I:Inv X pins σ H s)(g:yG H a y<|some v)(ry:RelV y u)(h:∀w' s',Inv X pins σ H s'->RelV v w'->Q w' s') :
  wpAny (model X.prog X.w) A (getItem (.ref a) u) Q E s:=by
 rcases g with⟨kvs,k,e,m,l⟩|⟨kvs,k,b,e,m,C,l⟩
 ·subst m;obtain⟨z,hd,B,f,t⟩:=zF I.hok e;obtain⟨w',hw,d⟩:=sD.some_of (v:=v) (o:=valueAt B k) (by rw[l];exact f.val k);exact wpAny_getItem_of (Dp ry) t.mapOf hw (h w' _ (I.tok _) d)
 ·subst m
  cases(show u=Value.ref b from ry)
  obtain⟨z,hd,xs,f,t⟩:=CB I.hok e;obtain⟨w',hw,d⟩:=sD.some_of (v:=v) (o:=(atKey xs k).map (·.2)) (by rw[l];exact f.val k);obtain⟨p,hp,j⟩:=bg.mp hw;refine wpAny_getItem_heap (tupleKind_room_in1 hu) (yH I.hok C) t hp ?_;rw[j];exact h w' _ (I.tok _) d
def AB{h':ak}{t':Nat}{ob:HO}(I:Inv X pins σ H s)(mu:Lc<|H a)(hs:Heap.SameBut a s.heap h')(he:∃q,h'.get? a=some q)(new:iJ X.prog X.w (upd H a ob) h' a ob) :
  Inv X pins σ (upd H a ob) { s with heap:=h',toks:=t' }:=
 I.write (x:=a) (e:=a) mu (.inl rfl) (λb q hb z=>(hs.2 b hb).trans z) he new
theorem Ke{P:ah}{w:af}{H':Hp}{h':ak}{kvs:List<|Key×V}(z:kvs.length<=sizeLine)(hd:(a == sysModules)=false)(rel:KV kvs vs)(dd:h'.DictOf (iW P w) a vs) :
  iJ P w H' h' a (.dK kvs):=⟨z,hd,vs,rel,dd⟩
end
section
variable {X:Cx}{pins:bn}{σ:St}{H:Hp}{s:aA}{a:aj}{kvs:List (Key×V)}{A:au}{E:aa->aA->Prop}
def Ky{Q:aa->aA->Prop}(I:Inv X pins σ H s)(e:Rd H a<|.dK kvs)(h:∀t s',Inv X pins σ H s'->Q (.int kvs.length t) s'):wpAny (model X.prog X.w) A (call (.builtin "len") [.ref a]) Q E s:=by
 obtain⟨z,hd,g,d,f⟩:=zF I.hok e;refine call_len_dict hd f (by rw[<- d.length];rw[cG]at z;lia) ?_;rw[<- d.length];exact h _ _<|I.tok _
end
def xh{H:Hp}{s:aA}{a:aj}(I:Inv X pins σ H s)(g:yG H a y o):s.TypeIs (.ref a) "dict" := by
 rcases g with⟨kvs,k,e,_,_⟩|⟨kvs,k,b,e,_,_,_⟩
 ·obtain⟨_,_,f,_,d⟩:=zF I.hok e;exact d.typeIs
 ·obtain⟨_,_,xs,_,d⟩:=CB I.hok e;exact d.typeIs
theorem Di{P:ah}{w:af}{H:Hp}(h:ak)(hb:sysModules<h.objs.size):iJ P w H (h.push { cls:=.type "dict",data:=.dict #[]}) h.objs.size (.dK []):=
 ⟨cN _,dU.mpr<|cB<|bu hb,[],.nil,Heap.DictOf.new h⟩
structure M1 (X:Cx)(o:aC)(m:Str)(apos:Pos)(e:aC)(cpos:Pos):Prop where
 base:attributeBase o m X.env (eval o X.env)=eval o X.env
 few:((backTo cpos<|starEach [e] X.env).all (λx=>!x.1) && (backToKw cpos<|keywordEach [] X.env).all (λx=>x.1.isSome)
  && decide (([e]:List aC).length+([]:List Keyword).length+(if ([]:List Keyword).isEmpty then 0 else 1)<30))=true
 line:(apos.endLine == cpos.line)=true
 trees:backTo cpos (starEach [e] X.env)=[(false,eval e X.env)]
structure M2 (X:Cx)(o:aC)(m:Str)(apos:Pos)(e f:aC)(cpos:Pos):Prop where
 base:attributeBase o m X.env (eval o X.env)=eval o X.env
 few:((backTo cpos<|starEach [e,f] X.env).all (λx=>!x.1) && (backToKw cpos<|keywordEach [] X.env).all (λx=>x.1.isSome)
  && decide (([e,f]:List aC).length+([]:List Keyword).length+(if ([]:List Keyword).isEmpty then 0 else 1)<30))=true
 line:(apos.endLine == cpos.line)=true
 trees:backTo cpos (starEach [e,f] X.env)=[(false,eval e X.env),(false,eval f X.env)]
meta abbrev B0:=ag×ag
abbrev Hs (x:ag):Int:=reduceHash<|Builtin.Tuple.tupleHashOf<|x.map hashInt
abbrev KY (k:B0):Int:=reduceHash<|Builtin.Tuple.tupleHashOf [Hs k.1,Hs k.2]
abbrev Oc (x:(B0×aj×aa)):DictEntry:=⟨KY x.1,.ref x.2.1,x.2.2⟩
abbrev Mq (a:aj)(xs:List<|B0×aj×aa)(h:ak):Prop:=(a == sysModules)=false/\xs.length<=sizeLine/\∃o es d,h.get? a=some o/\o.ExactDict/\o.data=.dict es d/\es.toList=xs.map Oc/\(xs.map (·.1)).Nodup
abbrev wo (H:Hp)(b:aj)(k:B0):Prop:=∃r1 r2,H b=some (.tup [.ref r1,.ref r2])/\H r1=some (.tup<|k.1.map V.int)/\H r2=some (.tup<|k.2.map V.int)
section
variable {X:Cx}
def FP(hu:X.A.units+1<cLine):Jt X (λx y H Q=>∃a v,x=.ref a/\yG H a y (some v)/\Q v H):=by
 intro d j pins s σ H x y v u Q I rx ry h hs;obtain⟨a,z,rfl,g,q⟩:=h
 cases rx
 have t:=xh I g;unfold subscriptTail;refine aJ ?_;rw[getitemInPython_of_ne t.not_modules];refine aJ<|wpAny_specialOf t PySem.F.slot_dict_getitem.lookup ?_;have f:wpAny (model X.prog X.w) X.A (subscripted j false (.ref a) u) (λr k=>wpAny (model X.prog X.w) X.A (letTemporaryGo d (.ref a) r >>= λ_=>pure r) (EP X pins σ Q) X.xe k) X.xe s:=by
  rw[hs];exact wpAny_operating<|Bv hu I g ry λB C I3 m=>aJ<|wpAny_letTemporaryGo<|aT ⟨z,H,I3,m,q⟩
 first
  | exact aT (aJ f)
  | exact aJ (aT<|aJ f)
  | exact aJ f
end
abbrev C0 (e:aj)(h:ak):Prop:=∃o d,h.get? e=some o/\o.data=.fields d/\d[2]?=some .none/\o.dict=none
structure Fly (l:List Env)(g:ak)(pn:bn)(H:Hp)(e:aj)(cls:aa)(h:ak):Prop where
 ex:∃(B:ak) (a0:aa),Heap.FlyingW B l e cls a0 h/\(∀a u,H a=some u->∃o,B.get? a=some o)/\(∀b o,g.get? b=some o->b∉frs l->∃o',B.get? b=some o')/\(∀p∈pn,∃o',B.get? p.1=some o')/\C0 e h
structure Made (X:Cx)(H:Hp)(e:aj)(cls:aa)(g:ak)(h:ak):Prop where
 ex:∃(g':ak) (vs:ar),Heap.MadeExcOf g' h e cls vs/\g'.FunFrames X.base X.stack/\(∀a u,H a=some u->∃o,g'.get? a=some o)/\(∀b o,g.get? b=some o->∃o',g'.get? b=some o')/\(∀p∈X.pn,∃o',g'.get? p.1=some o')
abbrev JJ (X:Cx)(H:Hp)(e:aj)(cls:aa)(s':aA):Prop:=Made X H e cls X.s₀.heap s'.heap\/Fly X.stack X.s₀.heap X.pn H e cls s'.heap
section
abbrev EX (X:Cx):XK:=λcls _ H'=>X.ex=[]/\∀pins d s' e,Inv X pins d H' s'->JJ X H' e cls s'->X.xe (.ref e) s'
end
inductive FParts (X:Cx):List aC->List (Str ⊕ TE)->Prop
 | nil:FParts X [] []
 | txt {x:Str} {j pos} {es:List aC} {ps:List<|Str ⊕ TE} (h:FParts X es ps):FParts X (.Constant (.str x) j pos::es) (.inl x::ps)
 | val {e:aC} {pos:Pos} {t:TE} {es:List aC} {ps:List<|Str ⊕ TE} (he:PE X e t) (h:FParts X es ps):FParts X (.FormattedValue e (-1) none pos::es) (.inr t::ps)
abbrev xu:HO:=.ext λ_=>True
structure XO (C:aj)(o:Obj):Prop where
 cls:o.cls=.ref C
 dict:o.dict=none
 ctx:∃vs,o.data=.fields vs/\vs[2]?=some .none
structure Fr0 (X:Cx)(e:aj):Prop where
 no:∀o,X.s₀.heap.get? e≠some o
 tup:∀xs,X.H₀ e≠some (.tup xs)
 frz:∀o u,X.H₀ e≠some (.frz o u)
 tbl:∀ps,X.H₀ e≠some (.tbl ps)
abbrev mroIn (K:aq)(C:aj):Option (ar):=match K.lookup C with
 | some ⟨.type "type",_,.cls cd,sl⟩=>(match cd.mro,sl.toList with
  | .ref C'::bm,[_,_,_,_,some<|.builtin _,_]=>if C'=C/\cd.hasDel=false then some bm else none
  | _,_=>none)
 | _=>none
structure ClsAt (h:ak)(C:aj)(bm:ar):Prop where
 ex:∃nm q N bs hdct sn sub ab col dd k0 k1 k2 k3 k5 newId,h.get? C=some (excClassObj nm q C N bs bm hdct sn sub ab col dd k0 k1 k2 k3 k5 newId)
open PySem.W in
structure XCls (K:aq)(C:aj):Prop where
 ga:findIn K (.ref C) "__getattribute__" = some (some<|.builtin "BaseException.__getattribute__")
 gt:findIn K (.ref C) "__getattr__" = some none
 fc:findObj K C none "__class__" = some (.bind (.builtin "getset_descriptor.__get__")<|.builtin "object.__class__")
 ob:PySem.W.mroIn K C (.type "object")=some true
 bs:subIn K (.ref C) (.type "BaseException")=some true
abbrev JH (A:au):au:={ A with handled:=none }
abbrev Ku (k:Nat)(A:au):Prop:=Room k<|JH A
structure Hnd (A:au)(H:Hp)(e:aj)(oe:Obj)(C:aj):Prop where
 hh:A.handled=some (.ref e)
 h0:H e=some (.frz oe xu)
 xo:XO C oe
structure FnOkH (P:ah)(w:af)(K:aq)(mg:Str->be)(base:ak)(k:Nat)(f:aj)(fd:FuncData)(ps:ap)(sp:Sp):Prop where
 len:∀vs H Q E,sp vs H Q E->vs.length=ps.length
 run:∀(A:au) (outer:List Env) (s:aA) (H:Hp) (args:Args) (us:ar) (vs:List V) (Q:VK) (e:aj) (oe:Obj) (C:aj),Ku k A->Hnd A H e oe C->Env0 P w K mg base A outer s H->BindsTo s fd args (ps.zip us)->Vals vs us->sp vs H Q E0 ->
  codeAny (model P w) A (.call (.ref f) args) (CR nU outer P w H s Q E0) s
end L2
namespace L2
open PySem PySem.Spec PyProof.Rows PySem.SeqAt
def IE:bootBuiltins "sum" = some (.builtin "sum"):=by decide +kernel
def Kf:bootBuiltins "zip" = some (.type "zip"):=by decide +kernel
section
variable {X:Cx}
def A7(hc:X.calm=true):ir X (.builtin "sum") (λxs H Q=>∃(p:aj) (ns:ag),xs=[.ref p]/\jh X.K H p (ns.map V.int)/\Q (.int ns.sum) H):=by
 gn_on;obtain⟨p,ns,rfl,z,q⟩:=h;obtain⟨u,rfl,rx⟩:=vals1 r
 cases rx
 obtain⟨k,B,m,F⟩:=I.list z;have g:=intsAre_of B;have f:=m.isList;obtain⟨ys,e⟩:=g.allInts.items;have d:ns=ys.toList.map (·.1):=by
  rw[<- g.numsOf,<- nums_intItems,<- e]
 rw[e]at f;refine sum_intListG (I.ok.hd hc) f λh' C t j=>?_;refine⟨.int _,H,I.kept j,⟨t,rfl⟩,?_⟩;rw[preSum_eq,List.take_of_length_le<|by simp,<- d];exact q
end
abbrev M6 (K:aq)(l1 l2:aj):It:=
 ⟨λi H=>∃xs ys x y,jh K H l1 xs/\jh K H l2 ys/\xs[i]?=some x/\ys[i]?=some y,
  λi H v H'=>∃T,H T=none/\v=.ref T/\∀xs ys x y,jh K H l1 xs->jh K H l2 ys->xs[i]?=some x->ys[i]?=some y->H'=upd H T (.tup [x,y]),
  λi H=>∃xs ys,jh K H l1 xs/\jh K H l2 ys/\(xs[i]?=none\/ys[i]?=none)⟩
def Fe{P:ah}{w:af}{K:aq}{TI TO:aj}(D:ZipApart z TI TO i1 i2 l1 l2) :
  Turn P w K (.Tuple elts x1 tpos) (M6 K l1 l2) [z,TI,TO,i1,i2] z (λi h=>IsZip h z TI TO .none/\IsPair h TI (.ref i1) (.ref i2)/\(∃a b,IsPair h TO a b)/\h.IsListIter i1 l1 i/\h.IsListIter i2 l2 i) where
 mem:=by simp
 obj:=λi h st b hb=>by
  obtain⟨s1,V,⟨a,b',Z⟩,⟨o4,e4,c4,d4⟩,⟨o5,e5,c5,d5⟩⟩:=st;have B:b=z\/b=TI\/b=TO\/b=i1\/b=i2:=by simpa using hb
  rcases B with rfl|rfl|rfl|rfl|rfl
  ·exact⟨_,s1,λv z=>by cases z⟩
  ·exact⟨_,V,λv z=>by cases z⟩
  ·exact⟨_,Z,λv z=>by cases z⟩
  ·exact⟨o4,e4,λv z=>by rw[d4]at z;cases z⟩
  ·exact⟨o5,e5,λv z=>by rw[d5]at z;cases z⟩
 keep:=λi h h' st k=>by
  obtain⟨s1,V,⟨a,b',Z⟩,s4,s5⟩:=st;exact⟨k z (by simp) _ s1,k TI (by simp) _ V,⟨a,b',k TO (by simp) _ Z⟩,s4.at λo C=>k i1 (by simp) o C,s5.at λo C=>k i2 (by simp) o C⟩
 item:=by
  room;subst hP hw hK;obtain⟨s1,V,⟨a,b',Z⟩,s4,s5⟩:=st;obtain⟨xs,ys,x,y,W,U,hx,hy⟩:=hg;obtain⟨its1,rv1,p1,hz1⟩:=I.list W;obtain⟨its2,rv2,p2,hz2⟩:=I.list U;obtain⟨u1,hu1,ru1⟩:=rv1.get hx;obtain⟨u2,hu2,ru2⟩:=rv2.get hy;refine wpAny_pyNext_zip_item D s1 V Z s4 s5 p1.isList p2.isList (x:=u1) (y:=u2) (by simpa using hu1) (by simpa using hu2) λh' hz' hTO' h1' h2' hT hsz hk=>?_;refine⟨_,rfl,wpAny_letOwnedTupleGo_zip hz' λh2 he2 O=>?_⟩;have fT:H s.heap.objs.size=none:=I.hok.fresh<|aN _;have lz:z<s.heap.objs.size:=aV s1;have lTI:TI<s.heap.objs.size:=aV V;have lTO:TO<s.heap.objs.size:=aV Z;have li1:i1<s.heap.objs.size:=by obtain⟨o,C,_⟩:=s4;exact aV C
  have li2:i2<s.heap.objs.size:=by obtain⟨o,C,_⟩:=s5;exact aV C
  have k2:∀b o,b≠z->b≠TO->b≠i1->b≠i2->s.heap.get? b=some o->h2.get? b=some o:=λb o G M N J q=>O.extBut b o G<|hk b o G M N J q;have hT2:IsPair h2 s.heap.objs.size u1 u2:=O.extBut _ _ (fZ lz) hT;have fz:=hf z (by simp);have fTI:=hf TI (by simp);have f:=hf TO (by simp);have d:=hf i1 (by simp);have g:=hf i2 (by simp);have nT:∀b o,s.heap.get? b=some o->b≠s.heap.objs.size:=λb o q=>bu<|aV q;have t:∀c v,H c=some v->c≠z/\c≠TO/\c≠i1/\c≠i2:=λc v q=>⟨(λw=>by rw[w,fz.1]at q;cases q),(λw=>by rw[w,f.1]at q;cases q),(λw=>by rw[w,d.1]at q;cases q),(λw=>by rw[w,g.1]at q;cases q)⟩;have F:∀b,b∉[z,TO,i1,i2]->b≠z/\b≠TO/\b≠i1/\b≠i2:=λb hb=>by simpa using hb
  have I2:Inv X pins σ (upd H s.heap.objs.size<|.tup [x,y]) { s with heap:=h2,toks:=s.toks }:=by
   refine I.step (g':=s.gens) (d':=s.drawn) (ch:=[z,TO,i1,i2]) (λb hb=>?_) (λb o _ _ j q _=>?_) (λb o _ _ j q _=>?_) (λb o j q n=>?_) (λb o j q=>?_) (λb ys q=>?_) (λb o u' q=>?_) (λb ps q=>?_) (λm hm=>?_) (λb u' q=>?_) I.bare
   ·have B:b=z\/b=TO\/b=i1\/b=i2:=by simpa using hb
    rcases B with rfl|rfl|rfl|rfl
    ·exact⟨fz.2.2.2.1,fz.2.1,fz.2.2.2.2.1,fz.2.2.2.2.2⟩
    ·exact⟨f.2.2.2.1,f.2.1,f.2.2.2.2.1,f.2.2.2.2.2⟩
    ·exact⟨d.2.2.2.1,d.2.1,d.2.2.2.2.1,d.2.2.2.2.2⟩
    ·exact⟨g.2.2.2.1,g.2.1,g.2.2.2.2.1,g.2.2.2.2.2⟩
   ·obtain⟨G,M,N,J⟩:=F b j;exact k2 b o G M N J q
   ·obtain⟨G,M,N,J⟩:=F b j;exact⟨o.slots,k2 b o G M N J q⟩
   ·rw[gA<|nT b o q];exact n
   ·obtain⟨G,M,N,J⟩:=F b j;exact⟨o,k2 b o G M N J q⟩
   ·rw[gA<|gH q fT];exact q
   ·rw[gA<|gH q fT];exact q
   ·exact⟨#[],by rw[gA<|gH q fT,q];simp⟩
   ·obtain⟨o,es,ep,C,r⟩:=hm;exact⟨o,es,ep,k2 _ o (cB fz.2.1) (cB f.2.1) (cB d.2.1) (cB g.2.1) C,r⟩
   ·by_cases hb:b=s.heap.objs.size
    ·subst hb;rw[iF]at q
     cases q
     exact⟨by show 2<=sizeLine;decide,[u1,u2],.cons ru1<|.cons ru2 .nil,⟨_,hT2,rfl,rfl,0,rfl⟩⟩
    ·rw[gA hb]at q;refine(I.hok b u' q).stay (λc v hc L=>?_) (λc L=>?_) λc ys L=>?_
     ·have Y:c≠z/\c≠TO/\c≠i1/\c≠i2:=by
       rcases hc with w|w
       ·rw[w];exact t b u' q
       ·exact t c _ w
      exact k2 c v Y.1 Y.2.1 Y.2.2.1 Y.2.2.2 L
     ·rw[gA<|gH L fT];exact L
     ·rw[gA<|gH L fT];exact L
  refine⟨.ref s.heap.objs.size,_,I2,rfl,⟨s.heap.objs.size,fT,rfl,λxs' ys' x' y' hy1 hy2 e1 e2=>?_⟩,⟨he2,?_,⟨u1,u2,?_⟩,?_,?_⟩,λb hb=>?_⟩
  ·rw[I.pS hy1 W,hx]at e1;rw[I.pS hy2 U,hy]at e2
   cases e1;cases e2;rfl
  ·exact k2 TI _ D.TIz D.TITO D.TIi1 D.TIi2 V
  ·exact O.extBut TO _ D.TOz hTO'
  ·exact h1'.at λo C=>O.extBut i1 o D.i1z C
  ·exact h2'.at λo C=>O.extBut i2 o D.i2z C
  ·have B:b=z\/b=TI\/b=TO\/b=i1\/b=i2:=by simpa using hb
   rcases B with rfl|rfl|rfl|rfl|rfl
   ·rw[gA<|bu lz];exact fz.1
   ·rw[gA<|bu lTI];exact fTI.1
   ·rw[gA<|bu lTO];exact f.1
   ·rw[gA<|bu li1];exact d.1
   ·rw[gA<|bu li2];exact g.1
 done:=by
  room;subst hP hw hK;obtain⟨s1,V,⟨a,b',Z⟩,s4,s5⟩:=st;obtain⟨xs,ys,W,U,hend⟩:=hg;obtain⟨its1,rv1,p1,hz1⟩:=I.list W;obtain⟨its2,rv2,p2,hz2⟩:=I.list U;have hl1:=rv1.length;have hl2:=rv2.length;have fz:=hf z (by simp);have f:=hf TO (by simp);have d:=hf i1 (by simp);have g:=hf i2 (by simp);have hend':its1.toArray[i]?=none\/its2.toArray[i]?=none:=by
   rcases hend with q|q
   ·left;rw[cW]at q;simp;lia
   ·right;rw[cW]at q;simp;lia
  refine wpAny_pyNext_zip_end (I.ok.hd hc) D s1 V Z s4 s5 p1.isList p2.isList hend' λh' hk=>⟨rfl,?_⟩;have F:∀b,b∉[z,TO,i1,i2]->b≠z/\b≠TO/\b≠i1/\b≠i2:=λb hb=>by simpa using hb
  have t:∀c v,H c=some v->c≠z/\c≠TO/\c≠i1/\c≠i2:=λc v q=>⟨(λw=>by rw[w,fz.1]at q;cases q),(λw=>by rw[w,f.1]at q;cases q),(λw=>by rw[w,d.1]at q;cases q),(λw=>by rw[w,g.1]at q;cases q)⟩;refine I.step (g':=s.gens) (d':=s.drawn) (t':=s.toks) (ch:=[z,TO,i1,i2]) (λb hb=>?_) (λb o _ _ j q _=>?_) (λb o _ _ j q _=>?_) (λb o j q n=>n) (λb o j q=>?_) (λb ys q=>q) (λb o u' q=>q) (λb ps q=>⟨#[],by rw[q];simp⟩) (λm hm=>?_) (λb u' q=>?_) I.bare
  ·have B:b=z\/b=TO\/b=i1\/b=i2:=by simpa using hb
   rcases B with rfl|rfl|rfl|rfl
   ·exact⟨fz.2.2.2.1,fz.2.1,fz.2.2.2.2.1,fz.2.2.2.2.2⟩
   ·exact⟨f.2.2.2.1,f.2.1,f.2.2.2.2.1,f.2.2.2.2.2⟩
   ·exact⟨d.2.2.2.1,d.2.1,d.2.2.2.2.1,d.2.2.2.2.2⟩
   ·exact⟨g.2.2.2.1,g.2.1,g.2.2.2.2.1,g.2.2.2.2.2⟩
  ·obtain⟨G,M,N,J⟩:=F b j;exact hk b o G M N J q
  ·obtain⟨G,M,N,J⟩:=F b j;exact⟨o.slots,hk b o G M N J q⟩
  ·obtain⟨G,M,N,J⟩:=F b j;exact⟨o,hk b o G M N J q⟩
  ·obtain⟨o,es,ep,C,r⟩:=hm;exact⟨o,es,ep,hk _ o (cB fz.2.1) (cB f.2.1) (cB d.2.1) (cB g.2.1) C,r⟩
  ·refine(I.hok b u' q).stay (λc v hc L=>?_) (λc L=>L) λc ys L=>L;have Y:c≠z/\c≠TO/\c≠i1/\c≠i2:=by
    rcases hc with w|w
    ·rw[w];exact t b u' q
    ·exact t c _ w
   exact hk c v Y.1 Y.2.1 Y.2.2.1 Y.2.2.2 L
 self:=λ_ _ _ _ _ st h=>wpAny_pyIter_zip st.1 h
section
variable {X:Cx}
abbrev Ng (K:aq)(ta:TA):TI:=λσ H R=>ta σ H λd H1=>∃a b xs ys,d=[.ref a,.ref b]/\jh K H1 a xs/\jh K H1 b ys/\R (M6 K a b) H1
def I_{a b:aC}{ta:TA}{p:Pos}(hg:Gl X "zip")(hm:X.mg "zip" = none)(ha:PA X [a,b] ta)(hs:starEach [a,b] X.env=(false,eval a X.env)::starEach [b] X.env:=by rfl)(hpl:(backTo pos<|starEach [b] X.env).any (·.1)=false:=by rfl):PI X (.Tuple elts x1 tpos) (.Call (.Name "zip" p) [a,b] [] pos) (Ng X.K ta):=by
 intro pins s σ H R I h;refine Call_<|oh I hg hm Kf<|cg (iN (ha pos pins s σ H _ I h) λus d ⟨vs,H1,I1,r1,q1⟩=>?_) hs hpl;obtain⟨U,t2,xs,ys,e,N,j,q⟩:=q1;subst e;obtain⟨u1,f,rfl,F,r2⟩:∃u f,us=u::f/\RelV (.ref U) u/\Vals [.ref t2] f:=by
  cases r1 with|cons h t=>exact⟨_,_,rfl,h,t⟩
 obtain⟨u2,rfl,B⟩:=vals1 r2
 cases F
 cases B
 obtain⟨V,rv1,p1,W⟩:=I1.list N;obtain⟨O,rv2,p2,Z⟩:=I1.list j;refine call_zip_2 p1.isList p2.isList λh' P M G L C hsz Y=>?_;have I2:Inv X pins σ H1 { d with heap:=h' }:=I1.kept (t':=d.toks) Y;have g:U<d.heap.objs.size:=by obtain⟨o,z,_⟩:=p1.isList;exact aV z
 have m:t2<d.heap.objs.size:=by obtain⟨o,z,_⟩:=p2.isList;exact aV z
 have fr:∀k,H1 (d.heap.objs.size+k)=none:=λk=>I1.hok.fresh<|Nat.le_add_right _ k;refine wpAny_pyIter_zip P ⟨_,[d.heap.objs.size+4,d.heap.objs.size+2,d.heap.objs.size+3,d.heap.objs.size,d.heap.objs.size+1],_,_,H1,rfl,I2,Fe<|zipApart_new g m,⟨P,M,⟨_,_,G⟩,L,C⟩,λb hb=>?_,q⟩;have J:∃k,b=d.heap.objs.size+k:=by
  dsimp[br,List.not_mem_nil,or_false]at hb
  rcases hb with rfl|rfl|rfl|rfl|rfl
  ·exact⟨4,rfl⟩
  ·exact⟨2,rfl⟩
  ·exact⟨3,rfl⟩
  ·exact⟨0,rfl⟩
  ·exact⟨1,rfl⟩
 obtain⟨k,rfl⟩:=J;exact I1.sY (Nat.le_add_right _ k)<|fr k
end
end L2
namespace L2
open PySem PySem.Spec PyProof.Rows
abbrev Ih (K:aq)(a:aj):It:=
 ⟨λi H=>∃xs x,jh K H a xs/\xs[i]?=some x,λi H x H'=>∃T,H T=none/\x=.ref T/\∀xs y,jh K H a xs->xs[i]?=some y->H'=upd H T (.tup [.int i,y]),λi H=>∃xs,jh K H a xs/\xs.length=i⟩
def yw{P:ah}{w:af}{K:aq}(a e it:aj)(hei:e≠it):Turn P w K (.Tuple elts x1 tpos) (Ih K a) [e,it] e (λi h=>(∃old,IsEnum h e it i old)/\h.IsListIter it a i) where
 mem:=by simp
 obj:=λi h st b hb=>by
  obtain⟨⟨old,f⟩,g⟩:=st;have G:b=e\/b=it:=by simpa using hb
  rcases G with rfl|rfl
  ·exact⟨_,f,λv z=>by cases z⟩
  ·obtain⟨o,e,c,d⟩:=g;exact⟨o,e,λv z=>by rw[d]at z;cases z⟩
 keep:=λi h h' st k=>by
  obtain⟨⟨old,f⟩,g⟩:=st;exact⟨⟨old,k e (by simp) _ f⟩,g.at λo B=>k it (by simp) o B⟩
 item:=by
  room;subst hP hw hK;obtain⟨⟨old,f⟩,g⟩:=st;obtain⟨xs,x,hq,hx⟩:=hg;obtain⟨C,rv,p,hz⟩:=I.list hq;obtain⟨u,hu,ru⟩:=rv.get hx;have U:a≠it:=by
   obtain⟨o,B,F,_⟩:=p.isList;obtain⟨o2,O,J,_⟩:=g;intro z;rw[z,O]at B
   cases B
   rw[F]at J;exact absurd (Value.type.inj J) ⋯
  have hea:e≠a:=by
   obtain⟨o,B,F,_⟩:=p.isList;intro z;rw[<- z,f]at B
   cases B
   exact absurd (Value.type.inj F) ⋯
  have hlt:i<C.toArray.size:=by
   rw[aU];exact(aI.mp hu).1
  refine wpAny_pyNext_enum_itemD (Draws.list (A:=X.A.in1) (I.ok.hd hc) it a U C.toArray) f ⟨g,p.isList⟩ hlt hei (by simp[hei,hea]) λx' h' tk hP Y hst hT hsz hk=>?_;have ex:x'=u:=by
   have:C.toArray[i]?=some u:=by simpa using hu
   rw[this]at hP;exact(aR hP).symm
  subst ex;refine⟨_,rfl,wpAny_letOwnedTupleGo_enum Y λh2 he2 L=>?_⟩;have V:H s.heap.objs.size=none:=I.hok.fresh<|aN _;have Z:e<s.heap.objs.size:=aV f;have hil:it<s.heap.objs.size:=by obtain⟨o,B,_⟩:=g;exact aV B
  have W:∀b o,b≠e->b≠it->s.heap.get? b=some o->h2.get? b=some o:=λb o h1 h3 q=>L.extBut b o h1<|hk b o h1 h3 q;have hT2:h2.get? s.heap.objs.size=some { cls:=.type "tuple",data:=.seq #[.int i tk,x']}:=L.extBut _ _ (fZ Z) hT;obtain⟨e0,e1,e2,e3,e4,e5⟩:=hf e (by simp);obtain⟨i0,i1,i2,i3,i4,i5⟩:=hf it (by simp);have nT:∀b o,s.heap.get? b=some o->b≠s.heap.objs.size:=λb o q=>bu<|aV q;have j:∀c v,H c=some v->c≠e/\c≠it:=λc v q=>⟨(λz=>by rw[z,e0]at q;cases q),(λz=>by rw[z,i0]at q;cases q)⟩;have I2:Inv X pins σ (upd H s.heap.objs.size<|.tup [.int i,x]) { s with heap:=h2,toks:=tk+1 }:=by
   refine I.step (g':=s.gens) (d':=s.drawn) (ch:=[e,it]) (λb hb=>?_) (λb o _ _ t q _=>?_) (λb o _ _ t q _=>?_) (λb o t q n=>?_) (λb o t q=>?_) (λb ys q=>?_) (λb o u' q=>?_) (λb ps q=>?_) (λm hm=>?_) (λb u' q=>?_) I.bare
   ·have G:b=e\/b=it:=by simpa using hb
    rcases G with rfl|rfl
    ·exact⟨e3,e1,e4,e5⟩
    ·exact⟨i3,i1,i4,i5⟩
   ·exact W b o (λz=>t<|by simp[z]) (λz=>t<|by simp[z]) q
   ·exact⟨o.slots,W b o (λz=>t<|by simp[z]) (λz=>t<|by simp[z]) q⟩
   ·rw[gA<|nT b o q];exact n
   ·exact⟨o,W b o (λz=>t<|by simp[z]) (λz=>t<|by simp[z]) q⟩
   ·rw[gA<|gH q V];exact q
   ·rw[gA<|gH q V];exact q
   ·exact⟨#[],by rw[gA<|gH q V,q];simp⟩
   ·obtain⟨o,es,ep,B,r⟩:=hm;exact⟨o,es,ep,W _ o (cB e1) (cB i1) B,r⟩
   ·by_cases z:b=s.heap.objs.size
    ·subst z;rw[iF]at q
     cases q
     exact⟨by show 2<=sizeLine;decide,[.int i tk,x'],.cons ⟨tk,rfl⟩<|.cons ru .nil,⟨_,hT2,rfl,rfl,0,rfl⟩⟩
    ·rw[gA z]at q;refine(I.hok b u' q).stay (λc v hc N=>W c v ?_ ?_ N) (λc N=>?_) λc ys N=>?_
     ·rcases hc with z|z
      ·rw[z];exact(j b u' q).1
      ·exact(j c _ z).1
     ·rcases hc with z|z
      ·rw[z];exact(j b u' q).2
      ·exact(j c _ z).2
     ·rw[gA<|gH N V];exact N
     ·rw[gA<|gH N V];exact N
  refine⟨.ref s.heap.objs.size,_,I2,rfl,⟨s.heap.objs.size,V,rfl,λys y hy M=>?_⟩,⟨⟨x',by simpa using he2⟩,?_⟩,λb hb=>?_⟩
  ·rw[I.pS hy hq]at M;rw[hx]at M
   cases M
   rfl
  ·exact hst.1.at λo B=>L.extBut it o (cB hei) B
  ·have G:b=e\/b=it:=by simpa using hb
   rcases G with rfl|rfl
   ·rw[gA<|bu Z];exact e0
   ·rw[gA<|bu hil];exact i0
 done:=by
  room;subst hP hw hK;obtain⟨⟨old,f⟩,g⟩:=st;obtain⟨xs,hq,hx⟩:=hg;obtain⟨C,rv,p,hz⟩:=I.list hq;obtain⟨i0,i1,i2,i3,i4,i5⟩:=hf it (by simp);have U:a≠it:=by
   obtain⟨o,B,F,_⟩:=p.isList;obtain⟨o2,O,J,_⟩:=g;intro z;rw[z,O]at B
   cases B
   rw[F]at J;exact absurd (Value.type.inj J) ⋯
  have hl:=rv.length;have ei:C.toArray.size=i:=by rw[aU,<- hl,hx]
  exact wpAny_pyNext_enum_endD (Draws.list (A:=X.A.in1) (I.ok.hd hc) it a U C.toArray) f ⟨by rw[ei];exact g,p.isList⟩ λh' eb=>⟨rfl,I.turned (t':=s.toks) (λb o hb q=>eb b o hb q) i0 i1 i3 i4 i5⟩
 self:=λ_ _ _ _ _ st h=>let⟨⟨_,f⟩,_⟩:=st;wpAny_pyIter_enum f h
section
variable {X:Cx}
abbrev J8 (K:aq)(ta:TA):TI:=λσ H R=>ta σ H λd H1=>∃a xs,d=[.ref a]/\jh K H1 a xs/\R (Ih K a) H1
def EV{a:aC}{ta:TA}{p:Pos}(hg:Gl X "enumerate")(hm:X.mg "enumerate" = none)(ha:PA X [a] ta)(hs:starEach [a] X.env=[(false,eval a X.env)]:=by rfl):PI X (.Tuple elts x1 tpos) (.Call (.Name "enumerate" p) [a] [] pos) (J8 X.K ta):=by
 intro pins s σ H R I h;refine Call_<|oh I hg hm vh<|cg (iN (ha pos pins s σ H _ I h) λus d ⟨J,H1,I1,r1,B⟩=>?_) hs rfl;obtain⟨t,xs,e,C,q⟩:=B;subst e;obtain⟨u,rfl,rx⟩:=vals1 r1
 cases rx
 obtain⟨z,M,F,L⟩:=I1.list C;refine call_enumerate_list F.isList λh' k j G m=>?_;have I3:Inv X pins σ H1 { d with heap:=h' }:=I1.kept (t':=d.toks) m;have g:d.heap.objs.size+1≠d.heap.objs.size:=()
 refine wpAny_pyIter_enum k ⟨_,[_,d.heap.objs.size],_,_,H1,rfl,I3,yw t _ d.heap.objs.size g,⟨⟨.none,k⟩,j⟩,λb hb=>?_,q⟩;have f:b=d.heap.objs.size+1\/b=d.heap.objs.size:=by simpa using hb
 rcases f with rfl|rfl
 ·exact I1.sY (Nat.le_succ _) (I1.hok.fresh<|Nat.le_succ _)
 ·mg_lt
end
def EF{X:Cx}{i:Nat}{spos:Pos}{iter:aC}{N:ap}{wi:TI}{g:TG}{tc:TT}{te:TE}
  (hN:X.N.Nodup) (hi':X.N[i]?=some y) (hx:Loc X.env.scope y) (hc:X.calm=true) (S:CpScope X scope N cap) (hi:PI X tg iter wi)
  (hg:∀C s₀ H₀ ex,PG (gQ X scope N C s₀ H₀ ex) tg g) (ht:∀C s₀ H₀ ex,yb (gQ X scope N C s₀ H₀ ex) ifs tc) (he:∀C s₀ H₀ ex,PE (gQ X scope N C s₀ H₀ ex) elt te)
  (hsw:swapsWith (.ListComp elt [⟨tg,iter,ifs,0⟩] scope pos) (some<|.Name y py) spos.line X.env=pure true)
  (hf:X.fn y=true\/X.env.scope.names.lookup y=some .local) (hs:∀x,foldedSetIterable iter X.env x=pure x:=by intro _;rfl) :
  PS X (.Assign [.Name y py] (.ListComp elt [⟨tg,iter,ifs,0⟩] scope pos) spos) (Cy (Lo cap wi g tc te)<|zG i):=by
 kpf_c;rw[exec_Assign_Name_used _ _ _ _ hsw];refine aJ (bW<|aJ ?_)
 skip
 refine aJ<|cS (zM (ok:=λY=>Y.calm=true) (Q':=λ_ s'=>SP X pins D .next s') S (λ_ _ _ _ _=>hc) (PI.g hi) hg ht he hs pins s σ H _ I h ?_) (λ_ s' P=>aT<|aT P) λ_ _ e=>e;intro F C J H5 m hn j t q v;have M:=t F.heap<|Heap.SameBut.refl _ _;obtain⟨G,f⟩:∃o,F.heap.get? C=some o/\∀v,o.data≠.cell v:=by
  obtain⟨o,es,U,e,d,_⟩:=hn;exact⟨o,e,λv z=>by rw[d]at z;cases z⟩
 have O:=M.pinned (fp:=[C]) (λb hb=>by rw[aQ]at hb;rw[hb];exact j) (λb hb=>by rw[aQ]at hb;rw[hb];exact⟨G,f⟩)
 skip
 refine iN (vA hN hi' hx hf _ F σ H5 (.ref J) (.ref J) _ O rfl q) λ_ s7 h9=>?_;obtain⟨B,H7,I7,L⟩:=h9;have hp:=I7.pin (C,G)<|aP _<|aP _<|ig (aQ.mpr rfl) f.1;refine⟨m,hn.at' λo e=>by rw[f.1]at e;cases e;exact hp.1,λh' k=>?_⟩;have K:∀c v,H7 c=some v->c≠C:=λc v e z=>by rw[z,hp.2.1]at e;cases e
 refine⟨B,H7,?_,L⟩;refine I7.jt.wj (ch:=[C]) rfl ⟨λb o e n hb hx=>?_,λb o e n hb hx=>?_,λb o e n hx=>n,λb o e hx=>?_,λ_ _ e=>e,λ_ _ _ e=>e,λ_ _ e=>⟨#[],by rw[Array.append_empty];exact e⟩⟩ ?_ I7.bare ?_
 ·exact k.extBut b o (by simpa using hx) e
 ·exact⟨o.slots,k.extBut b o (by simpa using hx) e⟩
 ·exact⟨o,k.extBut b o (by simpa using hx) e⟩
 ·intro b o e;refine(I7.hok b o e).stay (λc v hc q=>k.extBut c v ?_ q) (λ_ q=>q) λ_ _ q=>q
  rcases hc with z|z
  ·rw[z];exact K b o e
  ·exact K c _ z
 ·intro b hb;rw[aQ]at hb;rw[hb];exact⟨j.2.2.2.1,j.2.1,j.2.2.2.2.1,j.2.2.2.2.2⟩
abbrev L3 (lo:Int)(n:Nat):It:=⟨λi _=>i<n,λi H x H'=>H'=H/\x=.int (lo-i),λi _=>n<=i⟩
def Bg{P:ah}{w:af}{K:aq}(it:aj)(lo:Int)(n:Nat):Turn P w K tg (L3 lo n) [it] it (λi h=>IsRangeIter h it (lo+(i:Nat) * (-1)) ((n:Int)-(i:Nat))<|-1) where
 mem:=by simp
 obj:=λi h st b hb=>by
  have e:b=it:=by simpa using hb
  subst e;exact⟨_,st,λv z=>by
   have m:Data.fields _=Data.cell v:=z
   cases m⟩
 keep:=λi h h' st k=>k it (by simp) _ st
 item:=by
  room;subst hP hw hK;w_up;have W:=Walks.range (prog:=X.prog) (w:=X.w) (I.ok.hd hc) it lo (-1) n;refine W.item i s _ _ hg st λv h' f hv d g=>?_;obtain⟨t,rfl⟩:=hv;have I1:Inv X pins σ H { s with heap:=h',toks:=f }:=I.turned (λb o hb e=>g b o (by simpa using hb) e) f0 f1 f3 f4 f5;refine⟨_,rfl,xJ (s:={ s with heap:=h',toks:=f }) (n := "range_iterator") d rfl rfl ⋯ ⟨.int<|lo-i,H,I1,⟨t,?_⟩,⟨rfl,rfl⟩,d,λb hb=>(hf b hb).1⟩⟩;rw[show lo+(i:Int) * (-1)=lo-i by lia]
 done:=by
  room;subst hP hw hK;w_up;exact wpAny_pyNext_range_end (I.ok.hd hc) st (by have:n<=i:=hg;lia) λh' j=>⟨rfl,I.turned (t':=s.toks) (λb o hb e=>j b o hb e) f0 f1 f3 f4 f5⟩
 self:=λ_ _ _ _ _ st h=>wpAny_pyIter_rangeiter st h
def tV(a b:Int):Builtin.Range.rangeSize a b (-1)=if a>b then a-b else 0:=by
 unfold Builtin.Range.rangeSize;dsimp[show ¬((-1:Int)>0)by decide,fJ,Int.neg_neg,Int.ediv_one];split<;>lia
def small_down{a b:Int}(ha:-(2 ^ 62)<=a)(ha':a<2 ^ 62)(hb:-(2 ^ 62)<=b)(hb':b<2 ^ 62):Builtin.Range.small a b (-1)=true:=by
 unfold Builtin.Range.small;rw[tV];dsimp[Builtin.Range.rangeFitsLong,dR,gf,eF,beq_iff_eq,show ¬((-1:Int)>0)by decide,fJ];split<;>lia
section
variable {X:Cx}{tg:aC}
def FQ{H:Hp}{s:aA}{R:It->Hp->Prop}{E:aa->aA->Prop}{lo hi:Int}{v:Tok}{tk:Nat}(I:Inv X pins σ H s)(h1:-(2 ^ 62)<=lo)(h2:lo<2 ^ 62)(h3:-(2 ^ 62)<=hi)(h4:hi<2 ^ 62)
  (q:R (L3 lo (lo-hi).toNat) H):wpAny (model X.prog X.w) X.A (pyIter<|.ref s.heap.objs.size) (M7 X pins σ tg R) E { s with heap:=s.heap.push { cls:=.type "range",data:=.fields #[.int lo t,.int hi u,.int (-1) v]},toks:=tk }:=by
 refine wpAny_pyIter_range (IsRange.new ..) (small_down h1 h2 h3 h4) ?_;have I1:Inv X pins σ H { s with heap:=s.heap.push { cls:=.type "range",data:=.fields #[.int lo t,.int hi u,.int (-1) v]},toks:=tk }:=I.kept λb o e=>aW _ e;refine⟨(s.heap.push { cls:=.type "range",data:=.fields #[.int lo t,.int hi u,.int (-1) v]}).objs.size,[(s.heap.push { cls:=.type "range",data:=.fields #[.int lo t,.int hi u,.int (-1) v]}).objs.size],_,_,H,rfl,
  I1.kept (t':=tk) λb o e=>aW _ e,Bg _ lo (lo-hi).toNat,?_,λb hb=>?_,q⟩
 ·have e1:lo+((0:Nat):Int) * (-1)=lo:=by simp
  have e2:(((lo-hi).toNat:Nat):Int)-((0:Nat):Int)=Builtin.Range.rangeSize lo hi (-1):=by rw[tV];split<;>lia
  skip
  rw[e1,e2];exact bR _ rfl
 ·have e:b=(s.heap.push { cls:=.type "range",data:=.fields #[.int lo t,.int hi u,.int (-1) v]}).objs.size:=by simpa using hb
  subst e;mg_lt
abbrev Kv (ta:TA):TI:=λσ H R=>ta σ H λd H1=>∃i j:Int,d=[.int i,.int j,.int<|-1]/\(-(2 ^ 62)<=i/\i<2 ^ 62/\-(2 ^ 62)<=j/\j<2 ^ 62)/\R (L3 i (i-j).toNat) H1
def FY{a:aC}{ta:TA}{p:Pos}(hg:Gl X "range")(hm:X.mg "range" = none)(ha:PA X [a,b,c] ta)(hs:starEach [a,b,c] X.env=[(false,eval a X.env),(false,eval b X.env),(false,eval c X.env)]:=by rfl)(hs2:starEach [b,c] X.env=[(false,eval b X.env),(false,eval c X.env)]:=by rfl) :
  PI X tg (.Call (.Name "range" p) [a,b,c] [] pos) (Kv ta):=by
 intro pins s σ H R I h;refine Call_ (oh I hg hm boot_range<|cg (iN (ha pos pins s σ H _ I h) λus G ⟨F,H1,I1,r1,f⟩=>?_) (by rw[hs,hs2])<|by rw[hs2];rfl);obtain⟨i,j,e,⟨f,k,B,z⟩,q⟩:=f;subst e
 cases r1 with
 | cons r d=>
  cases d with
  | cons m d=>
   cases d with
   | cons g d=>
    cases d
    obtain⟨t,rfl⟩:=r;obtain⟨J,rfl⟩:=m;obtain⟨C,rfl⟩:=g;exact call_range_3 ⋯ (FQ I1 f k B z q)
end
end L2
namespace Sx
open PySem PyProof.Rows
structure Ord where
 lt:Nat->Nat->Bool
 irr:∀i,lt i i=false
 tr:∀i j k,lt i j=true->lt j k=true->lt i k=true
 neg:∀i j k,lt i k=true->lt i j=true\/lt j k=true
abbrev P (o:Ord)(i j:Nat):Prop:=o.lt i j=true\/(o.lt j i=false/\i<j)
abbrev So (o:Ord)(g:Nat->Nat)(a b:Nat):Prop:=∀i j,a<=i->i<j->j<b->P o (g i) (g j)
abbrev Cl (g:Nat->Nat)(a b:Nat):Prop:=∀i,a<=i->i<b->a<=g i/\g i<b
section
variable {o:Ord}{N:Nat}{f:Nat->Keyed}{kd:SortKind}{g:Nat->Nat}{p:Array (Nat×Nat×Nat)}{st:SortSt}
structure Sg (N:Nat)(f:Nat->Keyed)(kd:SortKind)(g:Nat->Nat)(p:Array (Nat×Nat×Nat))(st:SortSt):Prop where
 size:(arrOf st).size=N
 get:∀i,i<N->(arrOf st)[i]?=some (f<|g i)
 lt:∀i,i<N->g i<N
 kind:kindOf st=kd
 failed:failedOf st=none
 pend:pendingOf st=p
structure Rn (o:Ord)(g0 g:Nat->Nat)(a b:Nat):Prop where
 out:∀i,i<a\/b<=i->g i=g0 i
 cl:Cl g a b
 so:So o g a b
end
section
variable {o:Ord}{g g0:Nat->Nat}
structure Dc (o:Ord)(g0 g:Nat->Nat)(a b q:Nat):Prop where
 out:∀i,i<a\/b<=i->g i=g0 i
 cl:Cl g a b
 few:a+(q+1)<=b
 dn:∀i j,a<=i->i<j->j<b->i<b-(q+1)->P o (g j) (g i)
 id:∀i,b-(q+1)<=i->i<b->g i=i
 al:∀i j,b-(q+1)<=i->i<b->b-(q+1)<=j->j<b->o.lt i j=false
end
abbrev GD:Bool->Keyed->Array Keyed->Nat->Nat->Nat->StateT SortSt Sem (bj):=sortPriv% PySem.Builtin.gallop
section
variable {o:Ord}{N:Nat}{f:Nat->Keyed}{A B hs:am}{ia ib:Nat}
abbrev fa (f:Nat->Keyed)(l:am):Array Keyed:=(l.map f).toArray
structure Ab (o:Ord)(N:Nat)(A B:am):Prop where
 sa:A.Pairwise (P o)
 sb:B.Pairwise (P o)
 lt:∀x∈A,∀y∈B,x<y
 nb:∀y∈B,y<N
 na:∀x∈A,x<N
structure Mg (o:Ord)(A B hs:am)(ia ib:Nat):Prop where
 la:ia<=A.length
 lb:ib<=B.length
 len:hs.length=ia+ib
 so:hs.Pairwise (P o)
 mem:∀x∈hs,x∈A\/x∈B
 ua:∀x∈hs,∀y∈A.drop ia,P o x y
 ub:∀x∈hs,∀y∈B.drop ib,P o x y
abbrev Res (o:Ord)(f:Nat->Keyed)(A B:am)(out:Array Keyed):Prop:=∃hs:am,out=fa f hs/\hs.length=A.length+B.length/\hs.Pairwise (P o)/\∀x∈hs,x∈A\/x∈B
end
structure Sm (st st':SortSt):Prop where
 a:arrOf st'=arrOf st
 k:kindOf st'=kindOf st
 p:pendingOf st'=pendingOf st
 f:failedOf st'=failedOf st
meta abbrev G:=Option (Array Keyed)×Array Keyed×Nat×Nat×Nat×Nat×Nat
abbrev T3 (a b out:Array Keyed)(ia ib mg ac bc:Nat):StateT SortSt Sem (ForInStep G):=do
 let x <- elem' a ia
 if (ia+1+1 == a.size)=true then pure (ForInStep.done (some<|out.push x++b.extract ib b.size++a.extract (ia+1) a.size,out.push x,ia+1,ib,mg,ac,bc))
 else if (decide (ac<7) && decide (bc<7))=true then pure (ForInStep.done (none,out.push x,ia+1,ib,mg,ac,bc))
 else pure (ForInStep.yield (none,out.push x,ia+1,ib,mg,ac,bc))
abbrev T2 (a b out:Array Keyed)(ia ib mg ac bc:Nat):StateT SortSt Sem (ForInStep G):=do
 let x <- elem' b ib
 if (ib+1 == b.size)=true then pure (ForInStep.done (some<|out.push x++a.extract ia a.size++b.extract (ib+1) b.size,out.push x,ia,ib+1,mg,ac,bc))
 else
  let y <- elem' a ia
  let r <- GD true y b (ib+1) (b.size-(ib+1)) 0
  match r with
  | some k=>
   if k>0 then
    if (ib+1+k == b.size)=true then pure (ForInStep.done (some<|out.push x++b.extract (ib+1) (ib+1+k)++a.extract ia a.size++b.extract (ib+1+k) b.size,out.push x++b.extract (ib+1) (ib+1+k),ia,ib+1+k,mg,ac,k))
    else T3 a b (out.push x++b.extract (ib+1) (ib+1+k)) ia (ib+1+k) mg ac k
   else T3 a b (out.push x) ia (ib+1) mg ac k
  | _=>pure<|ForInStep.done (some<|out.push x++a.extract ia a.size++b.extract (ib+1) b.size,out.push x,ia,ib+1,mg,ac,bc)
section
variable {o:Ord}{A B ts:am}{na nb:Nat}
structure Mh (o:Ord)(A B ts:am)(na nb:Nat):Prop where
 la:na<=A.length
 lb:nb<=B.length
 len:ts.length+na+nb=A.length+B.length
 so:ts.Pairwise (P o)
 mem:∀x∈ts,x∈A\/x∈B
 ua:∀y∈A.take na,∀x∈ts,P o y x
 ub:∀y∈B.take nb,∀x∈ts,P o y x
end
meta abbrev H:=Option (Array Keyed)×Nat×Nat×Array Keyed×Nat×Nat×Nat
section
variable {o:Ord}{f:Nat->Keyed}{st0:SortSt}{X Y ts:am}{na nb:Nat}
abbrev Oh (o:Ord)(X Y:am)(n:Nat)(ts:am)(na nb:Nat):Prop:=Mh o X Y ts na nb/\1<=na/\2<=nb/\na+nb+n<=X.length+Y.length
abbrev H2 (o:Ord)(f:Nat->Keyed)(X Y:am)(n:Nat)(st0:SortSt):ForInStep H->SortSt->Prop:=λr j=>Sm st0 j/\match r with
 | .done c=>(∃r z,c=(some r,z)/\Res o f X Y r)\/∃ts na nb mg d g,c=(none,na,nb,fa f ts.reverse,mg,d,g)/\Oh o X Y n ts na nb
 | .yield c=>∃ts na nb mg d g,c=(none,na,nb,fa f ts.reverse,mg,d,g)/\Oh o X Y n ts na nb
end
meta abbrev pr (x:Nat×Nat×Nat):Nat×Nat:=(x.1,x.2.1)
abbrev Lv (o:Ord)(g:Nat->Nat):List (Nat×Nat)->Nat->Nat->Prop
 | [],a,b=>a=b
 | x::l,a,b=>x.1=a/\1<=x.2/\Cl g a (a+x.2)/\So o g a (a+x.2)/\Lv o g l (a+x.2) b
abbrev PA (o:Ord)(g:Nat->Nat)(p:Array<|Nat×Nat×Nat)(b:Nat):Prop:=Lv o g (p.toList.map pr) 0 b
meta abbrev vv (vs:ar)(i:Nat):Keyed:=(vs.getD i .none,vs.getD i .none)
end Sx
namespace Am
open PySem
inductive A where
 | unb|non|bl (b:Bool)|int (i:Int)|str (x:Str)|tup (xs:List A)|frz (xs:List A)|rng (lo hi:Int)|ref (n:Nat)|exn (c:Str)|ty (n:String)|ktu (xs:List A)
@[reducible]def ae:=List A
inductive O where
 | lst (xs:ae)|dct (kvs:List<|ag×A)|mE (kvs:List<|Int×A)|dcp (kvs:List<|L2.B0×A)|ins (c:Str) (fs:List<|Str×A)
meta abbrev gu:=List O
inductive R (α:Type) where
 | ok (a:α) (S:gu)|ex (c:Str) (S:gu)|no
abbrev R.bind {α β:Type}(r:R α)(f:α->gu->R β):R β:=match r with
 | .ok a S=>f a S
 | .ex c S=>.ex c S
 | .no=>.no
abbrev R.post {α:Type}(r:R α)(P:α->gu->Prop)(E:Str->gu->Prop):Prop:=match r with
 | .ok a S=>P a S
 | .ex c S=>E c S
 | .no=>False
def gz{α β:Type}{r:R α}{f:α->gu->R β}{P:β->gu->Prop}{E:Str->gu->Prop}(h:(r.bind f).post P E):r.post (λa S=>(f a S).post P E) E:=by
 cases r<;>exact h
def BX{α:Type}{r:R α}{P P':α->gu->Prop}{E E':Str->gu->Prop}(h:r.post P E)(hp:∀a S,P a S->P' a S)(he:∀c S,E c S->E' c S):r.post P' E':=by
 cases r with
 | ok a S=>exact hp _ _ h
 | ex c S=>exact he _ _ h
 | no=>exact h.elim
abbrev gd {α:Type}(c:Prop)[Decidable c](r:R α):R α:=if c then r else .no
abbrev opt {α β:Type}(o:Option β)(f:β->R α):R α:=match o with
 | some b=>f b
 | none=>.no
def gS{α:Type}{c:Prop}[Decidable c]{r:R α}{P:α->gu->Prop}{E:Str->gu->Prop}(h:(gd c r).post P E):c/\r.post P E:=by
 unfold gd at h;by_cases hc:c
 ·rw[aX hc]at h;exact⟨hc,h⟩
 ·rw[aZ hc]at h;exact h.elim
def gE{α β:Type}{o:Option β}{f:β->R α}{P:α->gu->Prop}{E:Str->gu->Prop}(h:(opt o f).post P E):∃b,o=some b/\(f b).post P E:=by
 cases o with
 | none=>exact h.elim
 | some b=>exact⟨b,rfl,h⟩
abbrev gm (S:gu)(n:Nat):Option (ae):=match S[n]? with
 | some (.lst xs)=>some xs
 | _=>none
def gF{n:Nat}(h:gm S n=some xs):S[n]?=some (.lst xs):=by
 unfold gm at h;split at h
 ·rename_i e;cases h;exact e
 ·cases h
def p8{S:gu}{n:Nat}(h:S[n]?=some (.lst xs)):gm S n=some xs:=by
 unfold gm;rw[h]
inductive RS where
 | nx (τ:ae) (S:gu)|rt (a:A) (S:gu)|bk (τ:ae) (S:gu)|ct (τ:ae) (S:gu)|ex (c:Str) (S:gu)|no
meta abbrev Ex:=ae->gu->R A
meta abbrev nu:=ae->gu->R (ae)
meta abbrev Te:=ae->gu->R Bool
meta abbrev Sm:=ae->gu->RS
meta abbrev Tg:=A->ae->gu->R (ae)
end Am
namespace Am
open PySem L2
section
variable (K:aq) (ρ:ba) (H:Hp)
abbrev M8 (K:aq)(c:Str)(C:aj):Prop:=PySem.W.nsIn K mainGlobals c=some (some<|.ref C)
abbrev Fz (K:aq)(H:Hp)(a:aj)(vs:List V):Prop:=
 (∃o,H a=some (.frz o<|.lst vs))\/∃(o:Obj) (d:Array aa) (n:Nat),K.lookup a=some o/\o.cls=.type "list" /\ o.dict=none/\o.data=.seq d n/\d.size<=sizeLine/\Vals vs d.toList
abbrev Of (K:aq)(a:aj)(vs:List V):Prop:=∃(o:Obj) (d:Array aa) (n:Nat),K.lookup a=some o/\o.cls=.type "tuple" /\ o.dict=none/\o.data=.seq d n/\d.size<=sizeLine/\Vals vs d.toList
mutual
inductive AV:A->V->Prop
 | non:AV .non .non
 | bl (b:Bool):AV (.bl b) (.bl b)
 | int (i:Int):AV (.int i) (.int i)
 | str (x:Str):AV (.str x) (.str x)
 | ty (n:String):AV (.ty n) (.ty n)
 | tup {a:aj} {xs:ae} {vs:List V} (h:H a=some (.tup vs)) (r:AVs xs vs):AV (.tup xs) (.ref a)
 | frz {a:aj} {xs:ae} {vs:List V} (h:Fz K H a vs) (r:AVs xs vs):AV (.frz xs) (.ref a)
 | rng {a:aj} {lo hi:Int} (h:H a=some (.rng lo hi)):AV (.rng lo hi) (.ref a)
 | ref {a:aj} {n:Nat} (h:ρ[n]?=some a):AV (.ref n) (.ref a)
 | exn {a C:aj} {c:Str} {oe:Obj} (n:M8 K c C) (h:H a=some (.frz oe xu)) (x:XO C oe):AV (.exn c) (.ref a)
 | ktu {a:aj} {xs:ae} {vs:List V} (h:Of K a vs) (r:AVs xs vs):AV (.ktu xs)<|.ref a
inductive AVs:ae->List V->Prop
 | nil:AVs [] []
 | cons {x:A} {v:V} {xs:ae} {vs:List V} (h:AV x v) (t:AVs xs vs):AVs (x::xs) (v::vs)
end
abbrev DV:List (ag×A)->List (List Key×V)->Prop
 | [],[]=>True
 | p::r,q::r'=>(q.1=p.1.map Sum.inl/\AV K ρ H p.2 q.2)/\DV r r'
 | _,_=>False
abbrev DI:List (Int×A)->List (Key×V)->Prop
 | [],[]=>True
 | p::r,q::r'=>(q.1=Sum.inl p.1/\AV K ρ H p.2 q.2)/\DI r r'
 | _,_=>False
abbrev DP:List (L2.B0×A)->List (L2.B0×aj×aa)->Prop
 | [],[]=>True
 | p::r,q::r'=>(q.1=p.1/\L2.wo H q.2.1 q.1/\∃v,RelV v q.2.2/\AV K ρ H p.2 v)/\DP r r'
 | _,_=>False
abbrev OR (a:aj):O->Prop
 | .lst xs=>∃d,H a=some (.lst d)/\AVs K ρ H xs d
 | .dct kvs=>∃ks,H a=some (.dT ks)/\DV K ρ H kvs ks
 | .mE kvs=>∃ks,H a=some (.dK ks)/\DI K ρ H kvs ks
 | .dcp kvs=>∃xs,H a=some (.ext<|L2.Mq a xs)/\DP K ρ H kvs xs
 | .ins _ _=>∃o u,H a=some (.frz o u)
structure Rel (S:gu):Prop where
 len:ρ.length=S.length
 nd:ρ.Nodup
 «at»:∀(n:Nat) (a:aj) (o:O),ρ[n]?=some a->S[n]?=some o->OR K ρ H a o
end
abbrev Og:HO->Prop
 | .tup _=>True
 | .rng _ _=>True
 | .frz _ _=>True
 | _=>False
structure Ext0 (ρ ρ':ba)(H H':Hp):Prop where
 pre:ρ <+: ρ'
 im:∀a u,Og u->H a=some u->H' a=some u
structure Ext (ρ ρ':ba)(H H':Hp):Prop extends Ext0 ρ ρ' H H' where
 fr:∀a u,H a=some u->a∉ρ->H' a=some u
 nw:∀a,a∈ρ'->a∈ρ\/H a=none
def Ext.refl{H:Hp}:Ext ρ ρ H H:=⟨⟨cQ _,λ_ _ _ h=>h⟩,λ_ _ h _=>h,λ_ h=>.inl h⟩
def Ext.trans{H H1 H2:Hp}(a:Ext ρ ρ1 H H1)(b:Ext ρ1 ρ2 H1 H2):Ext ρ ρ2 H H2:=⟨⟨a.pre.trans b.pre,λx u i h=>b.im x u i<|a.im x u i h⟩,λx u h n=>b.fr x u (a.fr x u h n) λz=>(a.nw x z).elim n λz=>by(rw[z]at h;cases h),λx h=>by
 by_cases hx:x∈ρ
 ·exact .inl hx
 ·right
  cases q:H x with
  | none=>rfl
  | some u=>
   rcases b.nw x h with z|z
   ·exact((a.nw x z).elim hx λz=>by(rw[z]at q;cases q)).elim
   ·rw[a.fr x u q hx]at z;cases z⟩
def Ext0.get{H H':Hp}(e:Ext0 ρ ρ' H H'){n:Nat}{a:aj}(h:ρ[n]?=some a):ρ'[n]?=some a:=by
 obtain⟨t,rfl⟩:=e.pre;rw[aO (aI.mp h).1];exact h
section
variable {K:aq}{ρ ρ':ba}{H H':Hp}
def Ext0.NJ(e:Ext0 ρ ρ' H H'){a:aj}(h:kO K H a vs):kO K H' a vs:=by
 rcases h with(h|⟨o,h⟩)|h
 ·exact .inl (.inl<|e.im _ _ trivial h)
 ·exact .inl (.inr ⟨o,e.im _ _ trivial h⟩)
 ·exact .inr h
def Ext0.fz(e:Ext0 ρ ρ' H H'){a:aj}(h:Fz K H a vs):Fz K H' a vs:=by
 rcases h with⟨o,h⟩|h
 ·exact .inl ⟨o,e.im _ _ trivial h⟩
 ·exact .inr h
def Fz.Hg{a:aj}(h:Fz K H a vs):jh K H a vs:=by
 rcases h with⟨o,h⟩|h
 ·exact .inl (.inr ⟨o,h⟩)
 ·exact .inr h
mutual
theorem AV.iY(e:Ext0 ρ ρ' H H'):∀{x:A}{v:V},AV K ρ H x v->AV K ρ' H' x v
 | _,_,.non=>.non
 | _,_,.bl b=>.bl b
 | _,_,.int i=>.int i
 | _,_,.str x=>.str x
 | _,_,.ty x=>.ty x
 | _,_,.tup h r=>.tup (e.im _ _ trivial h) (AVs.iY e r)
 | _,_,.frz h r=>.frz (e.fz h) (AVs.iY e r)
 | _,_,.rng h=>.rng (e.im _ _ trivial h)
 | _,_,.ref h=>.ref (e.get h)
 | _,_,.exn n h x=>.exn n (e.im _ _ trivial h) x
 | _,_,.ktu h r=>.ktu h<|AVs.iY e r
theorem AVs.iY(e:Ext0 ρ ρ' H H'):∀{xs:ae}{vs:List V},AVs K ρ H xs vs->AVs K ρ' H' xs vs
 | _,_,.nil=>.nil
 | _,_,.cons h t=>.cons (AV.iY e h)<|AVs.iY e t
end
theorem DV.iY(e:Ext0 ρ ρ' H H'):∀{xs:List<|ag×A}{vs:List<|List Key×V},DV K ρ H xs vs->DV K ρ' H' xs vs
 | [],[],_=>trivial
 | _::_,_::_,⟨⟨a,b⟩,r⟩=>⟨⟨a,AV.iY e b⟩,DV.iY e r⟩
def DV.ext{x:List<|ag×A}{v:List<|List Key×V}(h:DV K ρ H x v)(e:Ext ρ ρ' H H'):DV K ρ' H' x v:=DV.iY e.toExt0 h
theorem DI.iY(e:Ext0 ρ ρ' H H'):∀{xs:List<|Int×A}{vs:List<|Key×V},DI K ρ H xs vs->DI K ρ' H' xs vs
 | [],[],_=>trivial
 | _::_,_::_,⟨⟨a,b⟩,r⟩=>⟨⟨a,AV.iY e b⟩,DI.iY e r⟩
def DI.ext{x:List<|Int×A}{v:List<|Key×V}(h:DI K ρ H x v)(e:Ext ρ ρ' H H'):DI K ρ' H' x v:=DI.iY e.toExt0 h
def wo.iY{k:L2.B0}(e:Ext0 ρ ρ' H H'):L2.wo H b k->L2.wo H' b k:=λ⟨r1,r2,h1,h2,d⟩=>⟨r1,r2,e.im _ _ trivial h1,e.im _ _ trivial h2,e.im _ _ trivial d⟩
theorem DP.iY(e:Ext0 ρ ρ' H H'):∀{xs:List<|L2.B0×A}{vs:List<|L2.B0×aj×aa},DP K ρ H xs vs->DP K ρ' H' xs vs
 | [],[],_=>trivial
 | _::_,_::_,⟨⟨a,k,v,c,b⟩,r⟩=>⟨⟨a,wo.iY e k,v,c,AV.iY e b⟩,DP.iY e r⟩
def DP.ext{x:List<|L2.B0×A}{v:List<|L2.B0×aj×aa}(h:DP K ρ H x v)(e:Ext ρ ρ' H H'):DP K ρ' H' x v:=DP.iY e.toExt0 h
def AV.ext{x:A}{v:V}(h:AV K ρ H x v)(e:Ext ρ ρ' H H'):AV K ρ' H' x v:=AV.iY e.toExt0 h
def AVs.ext{x:ae}{v:List V}(h:AVs K ρ H x v)(e:Ext ρ ρ' H H'):AVs K ρ' H' x v:=AVs.iY e.toExt0 h
theorem AVs.length:∀{xs:ae}{vs:List V},AVs K ρ H xs vs->xs.length=vs.length
 | _,_,.nil=>rfl
 | _,_,.cons _ t=>b_ (·+1)<|AVs.length t
theorem AVs.append:∀{xs ys:ae}{vs ws:List V},AVs K ρ H xs vs->AVs K ρ H ys ws->AVs K ρ H (xs++ys) (vs++ws)
 | _,_,_,_,.nil,s=>s
 | _,_,_,_,.cons h t,s=>.cons h<|AVs.append t s
theorem AVs.take:∀{xs:ae}{vs:List V}(n:Nat),AVs K ρ H xs vs->AVs K ρ H (xs.take n) (vs.take n)
 | _,_,0,_=>.nil
 | _,_,_+1,.nil=>.nil
 | _,_,n+1,.cons h t=>.cons h<|AVs.take n t
theorem AVs.reverse:∀{xs:ae}{vs:List V},AVs K ρ H xs vs->AVs K ρ H xs.reverse vs.reverse
 | _,_,.nil=>.nil
 | _,_,.cons h t=>by rw[ez,ez];exact(AVs.reverse t).append (.cons h .nil)
theorem AVs.get:∀{xs:ae}{vs:List V}{i:Nat}{x:A},AVs K ρ H xs vs->xs[i]?=some x->∃v,vs[i]?=some v/\AV K ρ H x v
 | _,_,_,_,.nil,e=>by simp at e
 | _,_,0,_,.cons h _,e=>by simp at e;subst e;exact⟨_,rfl,h⟩
 | _,_,i+1,x,.cons _ t,e=>by
  obtain⟨u,h1,h2⟩:=AVs.get (i:=i) (x:=x) t (by simpa using e);exact⟨u,by simpa using h1,h2⟩
theorem AVs.set{x:A}{v:V}(h:AV K ρ H x v):∀{xs:ae}{vs:List V}(i:Nat),AVs K ρ H xs vs->AVs K ρ H (xs.set i x) (vs.set i v)
 | _,_,_,.nil=>.nil
 | _,_,0,.cons _ t=>.cons h t
 | _,_,i+1,.cons q t=>.cons q<|AVs.set h i t
def AVs.one{x:A}{v:V}(h:AV K ρ H x v):AVs K ρ H [x] [v]:=.cons h .nil
theorem qd:∀(ns:ag),AVs K ρ H (ns.map .int) (ns.map .int)
 | []=>.nil
 | n::ns=>.cons (.int n)<|qd ns
def Rel.lay{S:gu}{p:aj}(R:Rel K ρ H S)(hp:H p=none)(r:AVs K ρ H xs vs):Ext ρ (ρ++[p]) H (upd H p<|.lst vs)/\Rel K (ρ++[p]) (upd H p<|.lst vs) (S++[.lst xs])/\(ρ++[p])[S.length]?=some p:=by
 have ex:Ext ρ (ρ++[p]) H (upd H p<|.lst vs):=⟨⟨d_ _ _,λa u _ h=>by rw[gA<|gH h hp];exact h⟩,λa u h _=>by rw[gA<|gH h hp];exact h,λa h=>by
  rcases bC.mp h with z|z
  ·exact .inl z
  ·have e:a=p:=by simpa using z
   rw[e];exact .inr hp⟩
 have f:∀(n:Nat) (a:aj),ρ[n]?=some a->a≠p:=by
  intro n a e z;subst z;have hn:n<S.length:=by rw[<- R.len];exact(aI.mp e).1
  have:=R.at n a S[n] e (aF hn)
  cases j:S[n]with
  | lst xs=>rw[j]at this;obtain⟨vs,h,_⟩:=this;rw[hp]at h;cases h
  | dct _|mE _|dcp _=>rw[j]at this;obtain⟨vs,h,_⟩:=this;rw[hp]at h;cases h
  | ins _ _=>rw[j]at this;obtain⟨_,_,h⟩:=this;rw[hp]at h;cases h
 have d:(ρ++[p])[S.length]?=some p:=by rw[<- R.len];simp
 refine⟨ex,⟨by simp[R.len],?_,?_⟩,d⟩
 ·rw[cy];refine⟨R.nd,by simp,λa m b hb e=>?_⟩;have:b=p:=by simpa using hb
  obtain⟨n,hn,t⟩:=dJ.mp m;exact f n a (by rw[aF hn,t])<|e.trans this
 ·intro n a o h1 h2;by_cases hn:n<S.length
  ·rw[aO<|by rw[R.len];exact hn]at h1;rw[aO hn]at h2;have:=R.at n a o h1 h2
   cases o with
   | lst ys=>obtain⟨g,e,q⟩:=this;exact⟨g,by rw[gA<|f n a h1];exact e,q.ext ex⟩
   | dct _|mE _|dcp _=>obtain⟨g,e,q⟩:=this;exact⟨g,by rw[gA<|f n a h1];exact e,q.ext ex⟩
   | ins _ _=>obtain⟨k,B,e⟩:=this;exact⟨k,B,by rw[gA<|f n a h1];exact e⟩
  ·have e:n=S.length:=by
    have:=(aI.mp h2).1;simp at this
    lia
   subst e;rw[d]at h1
   cases h1
   simp at h2;subst h2;exact⟨vs,iF,r.ext ex⟩
def Rel.im{p:aj}(R:Rel K ρ H S)(hp:H p=none):Ext ρ ρ H (upd H p u)/\Rel K ρ (upd H p u) S:=by
 have ex:Ext ρ ρ H (upd H p u):=⟨⟨cQ _,λa u _ h=>by rw[gA<|gH h hp];exact h⟩,λa u h _=>by rw[gA<|gH h hp];exact h,λ_ h=>.inl h⟩;refine⟨ex,R.len,R.nd,λn a o h1 h2=>?_⟩;have:=R.at n a o h1 h2
 cases o with
 | lst ys=>obtain⟨d,e,q⟩:=this;exact⟨d,by rw[gA<|gH e hp];exact e,q.ext ex⟩
 | dct _|mE _|dcp _=>obtain⟨d,e,q⟩:=this;exact⟨d,by rw[gA<|gH e hp];exact e,q.ext ex⟩
 | ins _ _=>obtain⟨f,g,e⟩:=this;exact⟨f,g,by rw[gA<|gH e hp];exact e⟩
def Rel.put{S:gu}{n:Nat}{a:aj}(R:Rel K ρ H S)(ha:ρ[n]?=some a)(hS:S[n]?=some (.lst xs))(r:AVs K ρ H ys ws):Ext ρ ρ H (upd H a<|.lst ws)/\Rel K ρ (upd H a<|.lst ws) (S.set n<|.lst ys):=by
 obtain⟨k,e,_⟩:=R.at n a _ ha hS;have ex:Ext ρ ρ H (upd H a<|.lst ws):=⟨⟨cQ _,λb u i h=>by
  have:b≠a:=by
   intro z;subst z;rw[e]at h;cases h;exact i
  rw[gA this];exact h⟩,λb u h n=>by
  rw[gA λz=>n<|by rw[z];exact bf ha];exact h,λ_ h=>.inl h⟩
 refine⟨ex,by rw[bA];exact R.len,R.nd,λm b o h1 h2=>?_⟩;by_cases hm:m=n
 ·subst hm;rw[ha]at h1;cases h1;rw[bO (aI.mp hS).1]at h2
  cases h2
  exact⟨ws,iF,r.ext ex⟩
 ·rw[bM<|cB hm]at h2;have nb:b≠a:=λz=>by
   subst z;obtain⟨t,e1⟩:=aI.mp ha;obtain⟨B,e2⟩:=aI.mp h1;exact hm<|(fU R.nd).mp<|e2.trans e1.symm
  have:=R.at m b o h1 h2
  cases o with
  | lst ys=>obtain⟨d,f,q⟩:=this;exact⟨d,by rw[gA nb];exact f,q.ext ex⟩
  | dct _|mE _|dcp _=>obtain⟨d,f,q⟩:=this;exact⟨d,by rw[gA nb];exact f,q.ext ex⟩
  | ins _ _=>obtain⟨g,j,f⟩:=this;exact⟨g,j,by rw[gA nb];exact f⟩
def Rel.lst{n:Nat}{a:aj}(R:Rel K ρ H S)(ha:ρ[n]?=some a)(hS:S[n]?=some (.lst xs)):∃vs,H a=some (.lst vs)/\AVs K ρ H xs vs:=R.at n a _ ha hS
structure SR (K:aq)(ρ:ba)(H:Hp)(τ:ae)(σ:St):Prop where
 len:τ.length=σ.length
 «at»:∀(i:Nat) (a:A),τ[i]?=some a->a=.unb\/∃v,σ[i]?=some (some v)/\AV K ρ H a v
def SR.iY(s:SR K ρ H τ σ)(e:Ext0 ρ ρ' H H'):SR K ρ' H' τ σ:=⟨s.len,λi a h=>by
 rcases s.at i a h with z|⟨v,h1,h2⟩
 ·exact .inl z
 ·exact .inr ⟨v,h1,AV.iY e h2⟩⟩
def SR.ext(s:SR K ρ H τ σ)(e:Ext ρ ρ' H H'):SR K ρ' H' τ σ:=s.iY e.toExt0
def Rel.out(R:Rel K ρ H S)(hD:H D=some (.lst vs))(hn:D∉ρ):Ext0 ρ ρ H (upd H D<|.lst ws)/\Rel K ρ (upd H D<|.lst ws) S:=by
 have ex:Ext0 ρ ρ H (upd H D<|.lst ws):=⟨cQ _,λb u i h=>by
  have:b≠D:=by
   intro z;subst z;rw[hD]at h;cases h;exact i
  rw[gA this];exact h⟩
 refine⟨ex,R.len,R.nd,λn a o h1 h2=>?_⟩;have na:a≠D:=λz=>hn (by rw[<- z];exact bf h1);have:=R.at n a o h1 h2
 cases o with
 | lst ys=>obtain⟨d,e,q⟩:=this;exact⟨d,by rw[gA na];exact e,AVs.iY ex q⟩
 | dct _|mE _|dcp _=>obtain⟨d,e,q⟩:=this;exact⟨d,by rw[gA na];exact e,q.iY ex⟩
 | ins _ _=>obtain⟨f,g,e⟩:=this;exact⟨f,g,by rw[gA na];exact e⟩
def Rel.take{S:gu}{D:aj}(R:Rel K ρ H S)(hD:H D=some (.lst vs))(hn:D∉ρ)(r:AVs K ρ H xs vs):Rel K (ρ++[D]) H (S++[.lst xs])/\(ρ++[D])[S.length]?=some D:=by
 have ex:Ext0 ρ (ρ++[D]) H H:=⟨d_ _ _,λ_ _ _ h=>h⟩;have d:(ρ++[D])[S.length]?=some D:=by rw[<- R.len];simp
 refine⟨⟨by simp[R.len],?_,λn a o h1 h2=>?_⟩,d⟩
 ·rw[cy];refine⟨R.nd,by simp,λa j b hb e=>?_⟩;have:b=D:=by simpa using hb
  exact hn<|by rw[<- this,<- e];exact j
 ·by_cases hs:n<S.length
  ·rw[aO<|by rw[R.len];exact hs]at h1;rw[aO hs]at h2;have:=R.at n a o h1 h2
   cases o with
   | lst ys=>obtain⟨f,e,q⟩:=this;exact⟨f,e,AVs.iY ex q⟩
   | dct _|mE _|dcp _=>obtain⟨f,e,q⟩:=this;exact⟨f,e,q.iY ex⟩
   | ins _ _=>obtain⟨g,k,e⟩:=this;exact⟨g,k,e⟩
  ·have e:n=S.length:=by
    have:=(aI.mp h2).1;simp at this
    lia
   subst e;rw[d]at h1
   cases h1
   simp at h2;subst h2;exact⟨vs,hD,AVs.iY ex r⟩
def SR.set{τ:ae}{σ:St}{a:A}{v:V}(s:SR K ρ H τ σ)(h:AV K ρ H a v):SR K ρ H (τ.set i a) (σ.set i<|some v):=by
 refine⟨by simp[s.len],λj b e=>?_⟩;by_cases d:j=i
 ·subst d;have f:j<τ.length:=by
   have:=(aI.mp e).1;simpa using this
  rw[bO f]at e
  cases e
  exact .inr ⟨v,bO<|by rw[<- s.len];exact f,h⟩
 ·rw[bM<|cB d]at e;rw[bM<|cB d];exact s.at j b e
end
end Am
namespace Am
open PySem PySem.Spec PyProof.Rows L2
abbrev XE (X:Cx)(ρ:ba)(H:Hp):Str->gu->Prop:=λc d=>∀(C:aj) (ρ':ba) (H':Hp),M8 X.K c C->Ext ρ ρ' H H'->Rel X.K ρ' H' d->EX X (.ref C) none H'
def XE.ext{H H':Hp}(h:XE X ρ H c S)(e:Ext ρ ρ' H H'):XE X ρ' H' c S:=λC d H2 n e2=>h C d H2 n<|e.trans e2
abbrev rL (X:Cx)(ρ:ba)(H:Hp)(Q:VK):A->gu->Prop:=λa d=>∀ρ' H' v,Ext ρ ρ' H H'->Rel X.K ρ' H' d->AV X.K ρ' H' a v->Q v H'
abbrev L_ (X:Cx)(ρ:ba)(H:Hp)(Q:Bool->Hp->Prop):Bool->gu->Prop:=λb d=>∀ρ' H',Ext ρ ρ' H H'->Rel X.K ρ' H' d->Q b H'
abbrev Ob (X:Cx)(ρ:ba)(H:Hp)(Q:List V->Hp->Prop):ae->gu->Prop:=λf g=>∀ρ' H' d,Ext ρ ρ' H H'->Rel X.K ρ' H' g->AVs X.K ρ' H' f d->Q d H'
def rL.ext{H H':Hp}{Q:VK}{a:A}(h:rL X ρ H Q a S)(e:Ext ρ ρ' H H'):rL X ρ' H' Q a S:=λd H2 v e2=>h d H2 v<|e.trans e2
def L_.ext{H H':Hp}{Q:Bool->Hp->Prop}{a:Bool}(h:L_ X ρ H Q a S)(e:Ext ρ ρ' H H'):L_ X ρ' H' Q a S:=λd H2 e2=>h d H2<|e.trans e2
def gv{α:Type}{H H':Hp}{r:R α}{P P':α->gu->Prop}(h:r.post P<|XE X ρ H)(e:Ext ρ ρ' H H')(hp:∀a S,P a S->P' a S):r.post P' (XE X ρ' H'):=BX h hp λ_ _ z=>z.ext e
abbrev tE (X:Cx)(c:Ex):TE:=λσ H Q=>∃ρ S τ,Rel X.K ρ H S/\SR X.K ρ H τ σ/\(c τ S).post (rL X ρ H Q) (XE X ρ H)
abbrev tT (X:Cx)(c:Te):TT:=λσ H Q=>∃ρ S τ,Rel X.K ρ H S/\SR X.K ρ H τ σ/\(c τ S).post (L_ X ρ H Q) (XE X ρ H)
abbrev tL (X:Cx)(c:nu):TA:=λσ H Q=>∃ρ S τ,Rel X.K ρ H S/\SR X.K ρ H τ σ/\(c τ S).post (Ob X ρ H Q) (XE X ρ H)
abbrev AE (X:Cx)(e:aC)(c:Ex):Prop:=PE X e<|tE X c
abbrev AT (X:Cx)(e:aC)(c:Te):Prop:=PT X e<|tT X c
abbrev AW (X:Cx)(e:aC)(c:Te):Prop:=PW X e<|tT X c
abbrev AL (X:Cx)(es:List aC)(c:nu):Prop:=PA X es<|tL X c
def PE.imp{t t':TE}(h:PE X e t)(i:∀σ H Q,t' σ H Q->t σ H Q):PE X e t':=λpins s σ H Q I q=>h pins s σ H Q I<|i σ H Q q
def PT.imp{t t':TT}(h:PT X e t)(i:∀σ H Q,t' σ H Q->t σ H Q):PT X e t':=λpins s σ H Q I q=>h pins s σ H Q I<|i σ H Q q
def PW.imp{t t':TT}(h:PW X e t)(i:∀σ H Q,t' σ H Q->t σ H Q):PW X e t':=λw pins s σ H Q I q=>h w pins s σ H Q I<|i σ H Q q
def PA.imp{t t':TA}(h:PA X e t)(i:∀σ H Q,t' σ H Q->t σ H Q):PA X e t':=λp pins s σ H Q I q=>h p pins s σ H Q I<|i σ H Q q
def AW.at{c:Te}(h:AW X e c):AT X e c:=h _
abbrev A.jL:A->Bool
 | .unb=>true
 | _=>false
abbrev gk (i:Nat):Ex:=λτ S=>if (τ.getD i .unb).jL then .no else .ok (τ.getD i .unb) S
abbrev eC (a:A):Ex:=λ_ S=>.ok a S
section
variable {X:Cx}{pos:Pos}{a b:aC}
def gj(i:Nat){x:Str}(hN:X.N[i]?=some x:=by rfl)(hv:Lu X.env.scope x:=by first|exact Or.inl rfl|exact Or.inr (Or.inl rfl)|exact Or.inr<|Or.inr rfl)(hd:(x == ("__debug__" : Str))=false:=by decide)
  (hcd:(x == ("__classdict__" : Str))=false:=by decide):AE X (.Name x pos) (gk i):=PE.imp (Ji hN hv hd hcd) λσ H Q h9=>by
 z_go;unfold gk at h
 cases d:τ[i]? with
 | none=>
  rw[aG,d]at h;exact h.elim
 | some x=>
  rw[aG,d]at h
  rcases r.at i x d with z|⟨v,e,q⟩
  ·subst z;exact h.elim
  ·refine⟨v,e,?_⟩
   cases x<;>first|(exact h ρ H v .refl R q)|exact h.elim
def gx{i:Int}{j pos}:AE X (.Constant (.int i) j pos) (eC<|.int i):=PE.imp yi λσ H Q ⟨ρ,S,τ,R,r,h⟩=>h ρ H _ .refl R<|.int i
def pT{j pos}:AE X (.Constant (.bool i) j pos) (eC<|.bl i):=PE.imp Lj λσ H Q ⟨ρ,S,τ,R,r,h⟩=>h ρ H _ .refl R<|.bl i
def yz{j pos}:AE X (.Constant .none j pos) (eC .non):=PE.imp J4 λσ H Q ⟨ρ,S,τ,R,r,h⟩=>h ρ H _ .refl R .non
def xK{x:Str}{i:Int}(hm:X.mg x=some (.int i t))(hg:Gl X x:=by rfl)(hd:(x == ("__debug__" : Str))=false:=by decide):AE X (.Name x pos) (eC<|.int i):=
 PE.imp (F1 (v:=.int i) hg hm ⟨t,rfl⟩ hd) λσ H Q ⟨ρ,S,τ,R,r,h⟩=>h ρ H _ .refl R<|.int i
abbrev gC (f:A->A->gu->R A)(ca cb:Ex):Ex:=λτ S=>(ca τ S).bind λa S1=>(cb τ S1).bind λb S2=>f a b S2
abbrev r2 (X:Cx)(f:A->A->gu->R A):R2:=λx y H Q=>∃ρ S a b,Rel X.K ρ H S/\AV X.K ρ H a x/\AV X.K ρ H b y/\(f a b S).post (rL X ρ H Q) (XE X ρ H)
abbrev r1 (X:Cx)(f:A->gu->R A):V->Hp->VK->Prop:=λx H Q=>∃ρ S a,Rel X.K ρ H S/\AV X.K ρ H a x/\(f a S).post (rL X ρ H Q) (XE X ρ H)
abbrev rN (X:Cx)(f:ae->gu->R A):List V->Hp->VK->Prop:=λxs H Q=>∃ρ S d,Rel X.K ρ H S/\AVs X.K ρ H d xs/\(f d S).post (rL X ρ H Q) (XE X ρ H)
def jZ.imp{f:aa->aa->Sem aa}{r r':R2}(h:jZ X f r)(i:∀x y H Q,r' x y H Q->r x y H Q):jZ X f r':=λpins s σ H x y v u Q I rx ry q=>h pins s σ H x y v u Q I rx ry<|i _ _ _ _ q
def ir.imp{f:aa}{r r':List V->Hp->VK->Prop}(h:ir X f r)(i:∀x H Q,r' x H Q->r x H Q):ir X f r':=λpins s σ H x v Q I rx q=>h pins s σ H x v Q I rx<|i _ _ _ q
def pX{f:A->A->gu->R A}{ca cb:Ex}{H:Hp}{Q:VK}(h:tE X (gC f ca cb) σ H Q):LH (r2 X f) (tE X ca) (tE X cb) σ H Q:=by
 kln_w;refine⟨ρ,S,τ,R,r,gv (gz h) .refl λa S1 h1 ρ1 H1 x e1 m k=>⟨ρ1,S1,τ,m,r.ext e1,gv (gz h1) e1 λb S2 h2 d H2 y e2 R2 g=>?_⟩⟩;exact⟨d,S2,a,b,R2,k.ext e2,g,gv h2 (e1.trans e2) λc S3 j=>j.ext<|e1.trans e2⟩
def gX{f:A->A->gu->R A}{ca cb:Ex}(ho:jZ X (binaryOp op)<|r2 X f)(ha:AE X a ca)(hb:AE X b cb):AE X (.BinOp a op b pos) (gC f ca cb):=
 PE.imp (Ly ho ha hb) λσ H Q h=>pX h
def nH{op:CmpOp}{f:A->A->gu->R A}{ca cb:Ex}(ho:jZ X (compareOp op)<|r2 X f)(ha:AE X a ca)(hb:AE X b cb)(hm:behindInMarks op b=false:=by first|exact DX _|with_unfolding_all rfl):AE X (.Compare a [op] [b] pos) (gC f ca cb):=
 PE.imp (Gv ho ha hb hm) λσ H Q h=>pX h
abbrev A.KU:A->gu->bi
 | .non,_=>some false
 | .bl b,_=>some b
 | .int i,_=>some (i != 0)
 | .str x,_=>if x.length<=sizeLine then some ((x.length:Int) != 0)else none
 | .tup xs,_=>some (!xs.isEmpty)
 | .frz xs,_=>some (!xs.isEmpty)
 | .ref n,S=>(gm S n).map λxs=>!xs.isEmpty
 | _,_=>none
abbrev rz (c:Ex):Te:=λτ S=>(c τ S).bind λa S1=>opt (a.KU S1) λb=>.ok b S1
abbrev p7 (c:Ex):Te:=λτ S=>(c τ S).bind λa S1=>match a with
 | .bl b=>.ok b S1
 | _=>.no
def vV{K:aq}{H:Hp}{b:Bool}{v:V}(h:AV K ρ H (.bl b) v):v=.bl b:=by cases h;rfl
def iH{op:CmpOp}{f:A->A->gu->R A}{ca cb:Ex}(ho:jZ X (compareOp op)<|r2 X f)(ha:AE X a ca)(hb:AE X b cb)(hm:behindInMarks op b=false:=by first|exact DX _|with_unfolding_all rfl):AT X (.Compare a [op] [b] pos) (p7<|gC f ca cb):=
 PT.imp (FZ ho ha hb hm) λσ H Q h9=>by
  z_go;refine pX ⟨ρ,S,τ,R,r,gv (gz h) .refl λc S1 h1 ρ1 H1 x e1 g d=>?_⟩
  cases c with
  | bl k=>cases vV d;exact⟨k,rfl,h1 ρ1 H1 e1 g⟩
  | _=>exact h1.elim
def Jx{K:aq}{H:Hp}{x:A}{v:V}{b:Bool}(R:Rel K ρ H S)(h:AV K ρ H x v)(e:x.KU S=some b):Jb K v H b:=by
 have d:∀{xs:ae} {f:List V},AVs K ρ H xs f->(!xs.isEmpty)=!f.isEmpty:=λr=>by cases r<;>rfl
 cases h with
 | non=>exact(aR e).symm
 | bl b=>exact(aR e).symm
 | int i=>exact(aR e).symm
 | str x=>
  by_cases hx:x.length<=sizeLine
  ·exact⟨hx,by have:=(aX hx).symm.trans e;exact(aR this).symm⟩
  ·have:=(aZ hx).symm.trans e;cases this
 | tup h r=>exact .inr (.inl ⟨_,kO.of h,by rw[<- d r];exact(aR e).symm⟩)
 | frz h r=>exact .inl ⟨_,h.Hg,by rw[<- d r];exact(aR e).symm⟩
 | rng h=>cases e
 | ty n=>cases e
 | exn n h x=>cases e
 | ktu h r=>cases e
 | @ref a n h=>
  have e:(gm S n).map (λxs=>!xs.isEmpty)=some b:=e;obtain⟨xs,hn,e⟩:=bg.mp e;obtain⟨f,h1,h2⟩:=R.lst h<|gF hn;exact .inl ⟨f,jh.of h1,by rw[<- d h2];exact e.symm⟩
def lI{ca:Ex}(ha:AE X a ca)(he:∀whole,isTrue a X.env whole=(do let v <- whole;standAt a.pos;holding [v] (truthy v)):=by intro _;rfl):AT X a (rz ca):=
 PT.imp (DJ ha he) λσ H Q ⟨ρ,S,τ,R,r,h⟩=>⟨ρ,S,τ,R,r,gv (gz h) .refl λc S1 h1 ρ1 H1 x e1 d f=>by
  obtain⟨b,hb,h1⟩:=gE h1;exact⟨b,Jx d f hb,h1 ρ1 H1 e1 d⟩⟩
abbrev su (c:Te):Te:=λτ S=>(c τ S).bind λb S1=>.ok (!b) S1
abbrev EG (c d:Te):Te:=λτ S=>(c τ S).bind λb S1=>match b with|true=>d τ S1|false=>.ok false S1
abbrev Bw (c d:Te):Te:=λτ S=>(c τ S).bind λb S1=>match b with|true=>.ok true S1|false=>d τ S1
def m7{c:Te}(h:AT X a c):AT X (.UnaryOp .Not a pos) (su c):=PT.imp (Iq h) λσ H Q ⟨ρ,S,τ,R,r,h⟩=>⟨ρ,S,τ,R,r,gv (gz h) .refl λb S1 h1=>h1⟩
def and_imp{c d:Te}{H:Hp}{Q:Bool->Hp->Prop}(h:tT X (EG c d) σ H Q):LN (tT X c) (tT X d) σ H Q:=by
 kln_w;refine⟨ρ,S,τ,R,r,gv (gz h) .refl λb S1 h1 ρ1 H1 e1 f=>?_⟩
 cases b with
 | true=>
  rw[aX rfl];exact⟨ρ1,S1,τ,f,r.ext e1,gv h1 e1 λ_ _ z=>z.ext e1⟩
 | false=>
  rw[aZ bh];exact h1 ρ1 H1 e1 f
def or_imp{c d:Te}{H:Hp}{Q:Bool->Hp->Prop}(h:tT X (Bw c d) σ H Q):NX (tT X c) (tT X d) σ H Q:=by
 kln_w;refine⟨ρ,S,τ,R,r,gv (gz h) .refl λb S1 h1 ρ1 H1 e1 f=>?_⟩
 cases b with
 | false=>
  rw[aZ bh];exact⟨ρ1,S1,τ,f,r.ext e1,gv h1 e1 λ_ _ z=>z.ext e1⟩
 | true=>
  rw[aX rfl];exact h1 ρ1 H1 e1 f
variable {rest:List aC}
def zd{c:Te}(h:AT X a c):AW X (.BoolOp .And [a] pos) c:=GW h
def o6{c:Te}(h:AT X a c):AW X (.BoolOp .Or [a] pos) c:=IJ h
def Cv{c d:Te}(h:AT X a c)(h2:AW X (.BoolOp .And (b::rest) pos) d):AW X (.BoolOp .And (a::b::rest) pos) (EG c d):=PW.imp (IS h h2) λ_ _ _ q=>and_imp q
def pZ{c d:Te}(h:AT X a c)(h2:AW X (.BoolOp .Or (b::rest) pos) d):AW X (.BoolOp .Or (a::b::rest) pos) (Bw c d):=PW.imp (LO h h2) λ_ _ _ q=>or_imp q
abbrev q_ (c d:Ex):Ex:=λτ S=>(c τ S).bind λa S1=>match a with | .bl true=>d τ S1 | .bl false=>.ok (.bl false) S1|_=>.no
abbrev NW (c d:Ex):Ex:=λτ S=>(c τ S).bind λa S1=>match a with | .bl true=>.ok (.bl true) S1 | .bl false=>d τ S1|_=>.no
abbrev DY (c:Ex):Ex:=λτ S=>(c τ S).bind λa S1=>match a with | .bl b=>.ok (.bl !b) S1|_=>.no
def pK{op}{c:Ex}(h:AE X a c):AE X (.BoolOp op [a] pos) c:=Jf h
def nY{c d:Ex}(h:AE X a c)(h2:AE X (.BoolOp .And (b::rest) pos) d):AE X (.BoolOp .And (a::b::rest) pos) (q_ c d):=PE.imp (JF h h2) λσ H Q h9=>by
 z_go;refine⟨ρ,S,τ,R,r,gv (gz h) .refl λb S1 h1 ρ1 H1 x e1 f g=>?_⟩
 cases b with
 | bl k=>
  cases vV g
  refine⟨k,rfl,?_⟩
  cases k with
  | true=>
   rw[aX rfl];exact⟨ρ1,S1,τ,f,r.ext e1,gv h1 e1 λ_ _ z=>z.ext e1⟩
  | false=>
   rw[aZ bh];exact h1 ρ1 H1 _ e1 f<|.bl false
 | _=>exact h1.elim
def Ds{c:Ex}(h:AE X a c):AE X (.UnaryOp .Not a pos) (DY c):=PE.imp (IZ h) λσ H Q h9=>by
 z_go;refine⟨ρ,S,τ,R,r,gv (gz h) .refl λb S1 h1 ρ1 H1 x e1 f d=>?_⟩
 cases b with
 | bl k=>
  cases vV d
  exact⟨k,rfl,h1 ρ1 H1 _ e1 f<|.bl _⟩
 | _=>exact h1.elim
abbrev Oi (t:Te)(c d:Ex):Ex:=λτ S=>(t τ S).bind λb S1=>match b with|true=>c τ S1|false=>d τ S1
abbrev gy:nu:=λ_ S=>.ok [] S
abbrev gn (c:Ex)(d:nu):nu:=λτ S=>(c τ S).bind λa S1=>(d τ S1).bind λf S2=>.ok (a::f) S2
def gw:AL X [] gy:=PA.imp qC λσ H Q ⟨ρ,S,τ,R,r,h⟩=>h ρ H _ .refl R .nil
def gp{c:Ex}{d:nu}(ha:AE X e c)(hr:AL X es d)(hs:starEach (e::es) X.env=(false,eval e X.env)::starEach es X.env:=by rfl):AL X (e::es) (gn c d):=
 PA.imp (jT ha hr hs) λσ H Q h9=>by
  z_go;refine⟨ρ,S,τ,R,r,gv (gz h) .refl λa S1 h1 ρ1 H1 x e1 k j=>⟨ρ1,S1,τ,k,r.ext e1,gv (gz h1) e1 λm S2 h2 f H2 xs e2 R2 g=>?_⟩⟩;exact h2 f H2 _ (e1.trans e2) R2<|.cons (j.ext e2) g
abbrev Bd (d:nu):Ex:=λτ S=>(d τ S).bind λf S1=>gd (f.length<=sizeLine)<|.ok (.tup f) S1
abbrev newL (as:ae)(S:gu):R A:=gd (as.length<=sizeLine)<|.ok (.ref S.length)<|S++[.lst as]
abbrev ko (d:nu):Ex:=λτ S=>(d τ S).bind λf S1=>newL f S1
def uP{H H0:Hp}{Q:VK}(R:Rel X.K ρ H S)(r:AVs X.K ρ H as vs)(e:Ext ρ0 ρ H0 H)(h:rL X ρ0 H0 Q (.tup as) S):∀p,H p=none->Q (.ref p) (upd H p<|.tup vs):=λp hp=>by
 obtain⟨ex,d⟩:=R.im (u:=.tup vs) hp;exact h ρ _ _ (e.trans ex) d<|.tup iF<|r.ext ex
def kj{H H0:Hp}{S:gu}{Q:VK}(R:Rel X.K ρ H S)(r:AVs X.K ρ H as vs)(e:Ext ρ0 ρ H0 H)(h:rL X ρ0 H0 Q (.ref S.length)<|S++[.lst as]):∀p,H p=none->Q (.ref p) (upd H p<|.lst vs):=λp hp=>by
 obtain⟨ex,d,g⟩:=R.lay hp r;exact h _ _ _ (e.trans ex) d<|.ref g
def GX{H H0:Hp}{vs:List V}{Q:VK}(R:Rel X.K ρ H S)(r:AVs X.K ρ H as vs)(e:Ext ρ0 ρ H0 H)(h:(newL as S).post (rL X ρ0 H0 Q)<|XE X ρ0 H0):vs.length<=sizeLine/\∀p,H p=none->Q (.ref p) (upd H p<|.lst vs):=by
 obtain⟨d,h⟩:=gS h;exact⟨by rw[<- r.length];exact d,kj R r e h⟩
def uN{d:nu}{x1}(h:AL X es d):AE X (.Tuple es x1 pos) (Bd d):=PE.imp (IL h) λσ H Q h9=>by
 z_go;refine⟨ρ,S,τ,R,r,gv (gz h) .refl λk S1 h1 ρ1 H1 xs e1 j f=>?_⟩;obtain⟨g,h1⟩:=gS h1;exact⟨by rw[<- f.length];exact g,uP j f e1 h1⟩
def iQ{d:nu}(h:AL X es d):AE X (.List es pos) (ko d):=PE.imp (Ko h) λσ H Q ⟨ρ,S,τ,R,r,h⟩=>
 ⟨ρ,S,τ,R,r,gv (gz h) .refl λj S1 h1 ρ1 H1 xs e1 g f=>GX g f e1 h1⟩
end
section
variable {X:Cx}{pos:Pos}{a b:aC}
abbrev aSub (a b:A)(S:gu):R A:=match a,b with
 | .int i,.int j=>.ok (.int<|i-j) S
 | _,_=>.no
def t7:jZ X (binaryOp .Sub) (r2 X aSub):=jZ.imp Jl λx y H Q h9=>by
 x_go
 cases va<;>first|exact h.elim|(cases vb<;>first|exact h.elim|exact⟨_,_,rfl,rfl,h _ _ _ .refl R<|.int _⟩)
abbrev yS (i j:Int):Bool:=(decide (-(2 ^ 64)<i) && decide (i<2 ^ 64)) || (decide (-(2 ^ 64)<j) && decide (j<2 ^ 64))
def mulOk_of{i j:Int}(h:yS i j=true):F3 i j:=by
 unfold yS at h;dsimp[gf,dR,eF]at h;exact h
abbrev yd (a b:A)(S:gu):R A:=match a,b with
 | .int i,.int j=>gd (yS i j) (.ok (.int<|i * j) S)
 | .ref n,.int k=>opt (gm S n) λxs=>gd (-(2 ^ 63)<=k/\k<2 ^ 63/\xs.length * k.toNat<=sizeLine) (.ok (.ref S.length)<|S++[.lst (List.replicate k.toNat xs).flatten])
 | _,_=>.no
theorem AVs.rep{K:aq}{H:Hp}(r:AVs K ρ H xs vs):∀k:Nat,AVs K ρ H (List.replicate k xs).flatten (List.replicate k vs).flatten
 | 0=>.nil
 | k+1=>by rw[cz,cz,bE,bE];exact r.append<|AVs.rep r k
def Dk:jZ X (binaryOp .Mult) (r2 X yd):=λpins s σ H x y v u Q I rx ry h9=>by
 x_go
 cases va with
 | int i=>
  cases vb with
  | int j=>
   obtain⟨hm,h⟩:=gS h;exact Jo pins s σ H _ _ v u Q I rx ry ⟨i,j,rfl,rfl,mulOk_of hm,h _ _ _ .refl R<|.int _⟩
  | _=>exact h.elim
 | @ref p n hp=>
  cases vb with
  | int k=>
   kpc_g;obtain⟨hc,h⟩:=gS h;obtain⟨d,h1,h2⟩:=R.lst hp<|gF hn;exact JI pins s σ H _ _ v u Q I rx ry ⟨p,k,d,rfl,rfl,h1,hc.1,hc.2.1,by rw[<- h2.length];exact hc.2.2,kj R (h2.rep _) .refl h⟩
  | _=>exact h.elim
 | _=>exact h.elim
abbrev As (a b:A)(S:gu):R A:=match a,b with
 | .int i,.int j=>gd (0<j/\j<18446744073709551616) (.ok (.int<|i / j) S)
 | _,_=>.no
def Cu:jZ X (binaryOp .FloorDiv) (r2 X As):=jZ.imp B9 λx y H Q h9=>by
 x_go
 cases va<;>first|exact h.elim|(cases vb<;>first|exact h.elim|exact⟨_,_,rfl,rfl,(gS h).1,(gS h).2 _ _ _ .refl R<|.int _⟩)
abbrev u5 (a b:A)(S:gu):R A:=match a,b with
 | .int i,.int j=>gd (0<j) (.ok (.int<|i % j) S)
 | _,_=>.no
def xP:jZ X (binaryOp .Mod) (r2 X u5):=jZ.imp J0 λx y H Q h9=>by
 x_go
 cases va<;>first|exact h.elim|(cases vb<;>first|exact h.elim|exact⟨_,_,rfl,rfl,(gS h).1,(gS h).2 _ _ _ .refl R<|.int _⟩)
abbrev BS (a b:A)(S:gu):R A:=match a,b with
 | .int i,.int j=>gd (0<=j/\j<=1000000/\i.natAbs<2 ^ 64) (.ok (.int<|i ^ j.toNat) S)
 | _,_=>.no
def HM:jZ X (binaryOp .Pow) (r2 X BS):=jZ.imp Jc λx y H Q h9=>by
 x_go
 cases va<;>first|exact h.elim|(cases vb<;>first|exact h.elim|exact⟨_,_,rfl,rfl,(gS h).1,(gS h).2 _ _ _ .refl R<|.int _⟩)
abbrev mh (a b:A)(S:gu):R A:=match a,b with
 | .int i,.int j=>.ok (.int<|i+j) S
 | .tup xs,.tup ys=>gd (xs.length+ys.length<=sizeLine) (.ok (.tup<|xs++ys) S)
 | .str x,.str y=>gd (x.length+y.length<=sizeLine) (.ok (.str<|x++y) S)
 | .ref n,.ref m=>opt (gm S n) λxs=>opt (gm S m) λys=>gd (xs.length+ys.length<=sizeLine) (.ok (.ref S.length)<|S++[.lst<|xs++ys])
 | _,_=>.no
def AVs.nil_inv{K:aq}{H:Hp}(r:AVs K ρ H xs vs):xs=[] ↔ vs=[]:=by cases r<;>simp
def kC:jZ X (binaryOp .Add) (r2 X mh):=λpins s σ H x y v u Q I rx ry h9=>by
 x_go
 cases va with
 | int i=>
  cases vb with
  | int j=>exact J_ pins s σ H _ _ v u Q I rx ry ⟨i,j,rfl,rfl,h _ _ _ .refl R<|.int _⟩
  | _=>exact h.elim
 | str x=>
  cases vb with
  | str y=>
   obtain⟨hc,h⟩:=gS h;exact yj pins s σ H _ _ v u Q I rx ry ⟨x,y,rfl,rfl,hc,h _ _ _ .refl R<|.str _⟩
  | _=>exact h.elim
 | @tup p xs f h1 r1=>
  cases vb with
  | @tup q ys d h2 r2=>
   obtain⟨hc,h⟩:=gS h;by_cases hv:f=[]
   ·have hx:=r1.nil_inv.mpr hv;subst hv hx;exact CF pins s σ H _ _ v u Q I rx ry ⟨p,q,d,rfl,rfl,kO.of h1,kO.of h2,h _ _ _ .refl R<|.tup h2 r2⟩
   ·refine Gi pins s σ H _ _ v u Q I rx ry ⟨p,q,f,d,rfl,rfl,kO.of h1,kO.of h2,hv,by rw[<- r1.length,<- r2.length];exact hc,λe=>?_,λ_=>uP R (r1.append r2) .refl h⟩;have hy:=r2.nil_inv.mpr e;subst hy;rw[bZ]at h;exact h _ _ _ .refl R<|.tup h1 r1
  | _=>exact h.elim
 | @ref p n hp=>
  cases vb with
  | @ref q m t=>
   kpc_g;obtain⟨ys,hm,h⟩:=gE h;obtain⟨hc,h⟩:=gS h;obtain⟨f,h1,h2⟩:=R.lst hp<|gF hn;obtain⟨d,k,g⟩:=R.lst t<|gF hm;exact IB pins s σ H _ _ v u Q I rx ry ⟨p,q,f,d,rfl,rfl,h1,k,by rw[<- h2.length,<- g.length];exact hc,kj R (h2.append g) .refl h⟩
  | _=>exact h.elim
 | _=>exact h.elim
abbrev A.ints:ae->Option (ag)
 | []=>some []
 | .int i::xs=>(A.ints xs).map (i::·)
 | _=>none
def HZ{x:A}{bs:ag}(e:A.ints (x::xs)=some bs):∃b cs,x=.int b/\A.ints xs=some cs/\bs=b::cs:=by
 unfold A.ints at e;split at e
 ·rename_i z;cases z
 ·rename_i i ys z
  cases z
  obtain⟨cs,h1,h2⟩:=bg.mp e;exact⟨i,cs,rfl,h1,h2.symm⟩
 ·cases e
def yO{K:aq}{H:Hp}:∀{xs:ae}{vs:List V}{bs:ag},AVs K ρ H xs vs->A.ints xs=some bs->vs=bs.map V.int:=by
 intro xs
 induction xs with
 | nil=>
  intro vs bs h e
  cases h
  cases e
  rfl
 | cons x xs d=>
  intro vs bs h e;obtain⟨b,f,rfl,e1,rfl⟩:=HZ e
  cases h with
  | cons h t=>
   cases h
   rw[d t e1];rfl
abbrev F5 (a b:A)(S:gu):R A:=match a,b with
 | .int i,.int j=>.ok (.bl<|decide<|i<j) S
 | _,_=>.no
def F8(hu:X.A.units+64<cLine):jZ X (compareOp .Lt) (r2 X F5):=λpins s σ H x y v u Q I rx ry h9=>by
 x_go
 cases va with
 | int i=>
  cases vb with
  | int j=>exact LX pins s σ H _ _ v u Q I rx ry ⟨i,j,rfl,rfl,h _ _ _ .refl R<|.bl _⟩
  | _=>exact h.elim
 | _=>exact h.elim
abbrev Ht (a b:A)(S:gu):R A:=match a,b with
 | .int i,.int j=>.ok (.bl<|decide<|i<=j) S
 | _,_=>.no
def GQ:jZ X (compareOp .LtE) (r2 X Ht):=jZ.imp KH λx y H Q h9=>by
 x_go
 cases va<;>first|exact h.elim|(cases vb<;>first|exact h.elim|exact⟨_,_,rfl,rfl,h _ _ _ .refl R<|.bl _⟩)
abbrev GN (a b:A)(S:gu):R A:=match a,b with
 | .int i,.int j=>.ok (.bl<|decide<|j<i) S
 | _,_=>.no
def Bl(hu:X.A.units+64<cLine):jZ X (compareOp .Gt) (r2 X GN):=λpins s σ H x y v u Q I rx ry h9=>by
 x_go
 cases va with
 | int i=>
  cases vb with
  | int j=>exact KO pins s σ H _ _ v u Q I rx ry ⟨i,j,rfl,rfl,h _ _ _ .refl R<|.bl _⟩
  | _=>exact h.elim
 | _=>exact h.elim
abbrev Lx (a b:A)(S:gu):R A:=match a,b with
 | .int i,.int j=>.ok (.bl<|decide<|j<=i) S
 | _,_=>.no
def LB:jZ X (compareOp .GtE) (r2 X Lx):=jZ.imp KS λx y H Q h9=>by
 x_go
 cases va<;>first|exact h.elim|(cases vb<;>first|exact h.elim|exact⟨_,_,rfl,rfl,h _ _ _ .refl R<|.bl _⟩)
abbrev BD (neg:Bool)(a b:A)(S:gu):R A:=match a,b with
 | .bl i,.bl j=>.ok (.bl<|if neg then i != j else i == j) S
 | .non,.non=>.ok (.bl<|!neg) S
 | .unb,.non=>.no
 | .exn _,.non=>.no
 | _,.non=>.ok (.bl neg) S
 | _,_=>.no
def JS{n:Bool}{a b:A}(h1:b≠.non)(h2:∀j,b≠.bl j):BD n a b S=.no:=by
 unfold BD;split<;>first|rfl|exact absurd rfl h1|exact absurd rfl<|h2 _
def Jv{n:Bool}{a b:A}{F:A->gu->Prop}{G:Str->gu->Prop}(h:(BD n a b S).post F G)(h1:b≠.non)(h2:∀j,b≠.bl j):False:=by
 rw[JS h1 h2]at h;exact h
def MX:jZ X (compareOp .Is) (r2 X<|BD false):=λpins s σ H x y v u Q I rx ry h9=>by
 x_go
 cases vb with
 | non=>
  refine Js pins s σ H _ _ v u Q I rx ry ⟨rfl,?_⟩
  cases va<;>first|exact h _ _ _ .refl R (.bl _)|exact h.elim
 | bl j=>
  cases va with
  | bl i=>exact Jk pins s σ H _ _ v u Q I rx ry ⟨i,j,rfl,rfl,h _ _ _ .refl R<|.bl _⟩
  | _=>exact h.elim
 | _=>
  exact(Jv h (λz=>nomatch z) nofun).elim
abbrev G2 (f:A->gu->R A)(c:Ex):Ex:=λτ S=>(c τ S).bind λa S1=>f a S1
abbrev yc (a:A)(S:gu):R A:=match a with
 | .int i=>.ok (.int<|-i) S
 | _=>.no
def K4:Mc X (unaryOp .USub) (r1 X yc):=λpins s σ H x v Q I rx h9=>by
 obtain⟨ρ,S,a,R,va,h⟩:=h9
 cases va with
 | int i=>exact xY pins s σ H _ v Q I rx ⟨i,rfl,h _ _ _ .refl R<|.int _⟩
 | _=>exact h.elim
def JY{f:A->gu->R A}{c:Ex}{H:Hp}{Q:VK}(h:tE X (G2 f c) σ H Q):N1 (r1 X f) (tE X c) σ H Q:=by
 kln_w;exact⟨ρ,S,τ,R,r,gv (gz h) .refl λa S1 h1 ρ1 H1 x e1 j g=>⟨ρ1,S1,a,j,g,gv h1 e1 λc S3 d=>d.ext e1⟩⟩
def uQ{c:Ex}(h:AE X a c):AE X (.UnaryOp .USub a pos) (G2 yc c):=PE.imp (DU K4 h) λ_ _ _ q=>JY q
abbrev j5 (a b:A)(S:gu):R A:=match a,b with
 | .tup xs,.int i=>opt (j9 xs i) λx=>.ok x S
 | .frz xs,.int i=>opt (j9 xs i) λx=>.ok x S
 | .ref n,.int i=>opt (gm S n) λxs=>opt (j9 xs i) λx=>.ok x S
 | .str z,.int i=>gd (z.length<=sizeLine) (opt (j9 z.cps.toList i) λc=>.ok (.str ⟨#[c]⟩) S)
 | _,_=>.no
def AVs.j9{K:aq}{H:Hp}{i:Int}{x:A}(r:AVs K ρ H xs vs)(h:L2.j9 xs i=some x):∃v,L2.j9 vs i=some v/\AV K ρ H x v:=by
 unfold L2.j9 at h ⊢;rw[<- r.length]
 cases d:uB xs.length i with
 | none=>rw[d]at h;cases h
 | some j=>
  rw[d]at h;exact r.get h
def LY:Jt X (r2 X j5):=λd f pins s σ H x y v u Q I rx ry ⟨ρ,S,a,b,R,va,vb,h⟩ hs=>by
 cases va with
 | @tup p xs g h1 r1=>
  cases vb with
  | int i=>
   obtain⟨x,hx,h⟩:=gE h;obtain⟨z,e,q⟩:=r1.j9 hx;exact J9 d f pins s σ H _ _ v u Q I rx ry ⟨p,g,i,z,rfl,rfl,kO.of h1,e,h _ _ _ .refl R q⟩ hs
  | _=>exact h.elim
 | @frz p xs g h1 r1=>
  cases vb with
  | int i=>
   obtain⟨x,hx,h⟩:=gE h;obtain⟨z,e,q⟩:=r1.j9 hx;exact z9 d f pins s σ H _ _ v u Q I rx ry ⟨p,g,i,z,rfl,rfl,h1.Hg,e,h _ _ _ .refl R q⟩ hs
  | _=>exact h.elim
 | @ref p n hp=>
  cases vb with
  | int i=>
   kpc_g;obtain⟨x,hx,h⟩:=gE h;obtain⟨g,h1,r1⟩:=R.lst hp<|gF hn;obtain⟨z,e,q⟩:=r1.j9 hx;exact z9 d f pins s σ H _ _ v u Q I rx ry ⟨p,g,i,z,rfl,rfl,jh.of h1,e,h _ _ _ .refl R q⟩ hs
  | _=>exact h.elim
 | str z=>
  cases vb with
  | int i=>
   obtain⟨j,h⟩:=gS h;obtain⟨c,hc,h⟩:=gE h;exact JG d f pins s σ H _ _ v u Q I rx ry ⟨z,i,c,rfl,rfl,j,hc,h _ _ _ .refl R<|.str _⟩ hs
  | _=>exact h.elim
 | _=>exact h.elim
def iu{ca cb:Ex}(ha:AE X a ca)(hb:AE X b cb)(hs:vg b:=by exact λ_ _=>rfl):AE X (.Subscript a b pos) (gC j5 ca cb):=PE.imp (HC LY ha hb hs) λσ H Q h=>pX h
end
abbrev nZ (f:A->A->bi):ae->ae->bi
 | [],[]=>some true
 | x::xs,y::ys=>(f x y).bind λp=>(nZ f xs ys).map λq=>p && q
 | _,_=>some false
inductive Sh
 | non
 | bl (b:Bool)
 | int (i:Int)
 | str (x:Str)
 | tup (xs:ae)
 | lst
abbrev Jh (S:gu):A->Option Sh
 | .non=>some .non
 | .bl b=>some (.bl b)
 | .int i=>some (.int i)
 | .str x=>some (.str x)
 | .tup xs=>some (.tup xs)
 | .ref i=>(gm S i).map λ_=>.lst
 | _=>none
abbrev F7 (f:A->A->bi):Sh->Sh->bi
 | .non,.non=>some true
 | .bl x,.bl y=>some (x == y)
 | .bl x,.int y=>some ((if x then 1 else 0) == y)
 | .int x,.bl y=>some (x == (if y then 1 else 0))
 | .int x,.int y=>some (x == y)
 | .str x,.str y=>some (x == y)
 | .tup xs,.tup ys=>nZ f xs ys
 | .lst,.lst=>none
 | _,_=>some false
abbrev oi (S:gu):Nat->A->A->bi
 | 0,_,_=>none
 | n+1,a,b=>match a,b with
  | .ref i,.ref j=>(gm S i).bind λxs=>(gm S j).bind λys=>nZ (oi S n) xs ys
  | _,_=>(Jh S a).bind λx=>(Jh S b).bind λy=>F7 (oi S n) x y
section
variable {X:Cx}{pins:bn}{σ:L2.St}{H:Hp}{s:aA}{ρ:ba}{S:gu}
inductive KdV (s:aA):Sh->aa->Prop
 | non:KdV s .non .none
 | bl (b:Bool):KdV s (.bl b) (.bool b)
 | int (i:Int) (t:Tok):KdV s (.int i) (.int i t)
 | str (x:Str) (t:Tok):KdV s (.str x) (.str x t)
 | tup {p:aj} {us:ar} (xs:ae) (h:s.heap.IsTuple p us.toArray):KdV s (.tup xs) (.ref p)
 | lst {p:aj} {us:ar} (h:s.heap.IsList p us.toArray):KdV s .lst<|.ref p
def zu{p:aj}(h:s.heap.IsTuple p us)(h':s.heap.IsList p ws):False:=by
 obtain⟨o,e,c,_⟩:=h;obtain⟨o',d,f,_⟩:=h';rw[e]at d
 cases d
 exact absurd (c.symm.trans f) ⋯
def Af(I:Inv X pins σ H s)(R:Rel X.K ρ H S){a:A}{x:V}(ha:AV X.K ρ H a x)(r:RelV x u)(e:Jh S a=some h):KdV s h u:=by
 cases ha with
 | non=>cases e;cases(show u=Value.none from r);exact .non
 | bl b=>cases e;cases(show u=Value.bool b from r);exact .bl b
 | int i=>cases e;obtain⟨t,rfl⟩:∃t,u=Value.int i t:=r;exact .int i t
 | str i=>cases e;obtain⟨t,rfl⟩:∃t,u=Value.str i t:=r;exact .str i t
 | tup h1 r1=>cases e;cases(show u=Value.ref _ from r);obtain⟨us,_,p,_⟩:=I.tuple<|kO.of h1;exact .tup _ p
 | ref h1=>
  obtain⟨xs,e1,rfl⟩:=bg.mp e
  cases(show u=Value.ref _ from r)
  obtain⟨f,d,r1⟩:=R.lst h1<|gF e1;obtain⟨us,_,p,_⟩:=I.list<|jh.of d;exact .lst p.isList
 | _=>cases e
abbrev Al (B:au)(s:aA)(u v:aa)(k:Bool):Prop:=SeqAt.RcAt B s u v k/\SeqAt.EqAt B s u v k/\SeqAt.RcNeAt B s u v (!k)
def LJ{B:au}(hu:B.units<cLine){f:A->A->bi}{v:aa}{k:Bool}(d:KdV s h u)(d':KdV s h' v)(nt:∀xs ys,h=.tup xs->h'≠.tup ys)(e:F7 f h h'=some k):Al B s u v k:=by
 cases d with
 | non=>cases d' with
  | non=>cases e;exact⟨.none_none,.same _,.none_none⟩
  | bl b=>cases e;exact⟨.none_bool _,.none_bool _,.none_bool _⟩
  | int i t=>cases e;exact⟨.none_int _ _,.none_int _ _,.none_int _ _⟩
  | str x t=>cases e;exact⟨.none_str _ _,.none_str _ _,.none_str _ _⟩
  | tup xs p=>cases e;exact⟨.none_tuple p hu,.none_tuple p hu,.none_tuple p hu⟩
  | lst p=>cases e;exact⟨.none_list p hu,.none_list p hu,.none_list p hu⟩
 | bl c=>cases d' with
  | non=>cases e;exact⟨.bool_none _,.bool_none _,.bool_none _⟩
  | bl b=>cases e;exact⟨.bool_bool _ _,.bool_bool _ _,.bool_bool _ _⟩
  | int i t=>cases e;exact⟨.bool_int _ _ _,.bool_int _ _ _,.bool_int _ _ _⟩
  | str x t=>cases e;exact⟨.bool_str _ _ _,.bool_str _ _ _,.bool_str _ _ _⟩
  | tup xs p=>cases e;exact⟨.bool_tuple _ p hu,.bool_tuple _ p hu,.bool_tuple _ p hu⟩
  | lst p=>cases e;exact⟨.bool_list _ p hu,.bool_list _ p hu,.bool_list _ p hu⟩
 | int c j=>cases d' with
  | non=>cases e;exact⟨.int_none _ _,.int_none _ _,.int_none _ _⟩
  | bl b=>cases e;exact⟨.int_bool _ _ _,.int_bool _ _ _,.int_bool _ _ _⟩
  | int i t=>cases e;exact⟨.int_int _ _ _ _,.int_int _ _ _ _,.int_int _ _ _ _⟩
  | str x t=>cases e;exact⟨.int_str _ _ _ _,.int_str _ _ _ _,.int_str _ _ _ _⟩
  | tup xs p=>cases e;exact⟨.int_tuple _ _ p hu,.int_tuple _ _ p hu,.int_tuple _ _ p hu⟩
  | lst p=>cases e;exact⟨.int_list _ _ p hu,.int_list _ _ p hu,.int_list _ _ p hu⟩
 | str c j=>cases d' with
  | non=>cases e;exact⟨.str_none _ _,.str_none _ _,.str_none _ _⟩
  | bl b=>cases e;exact⟨.str_bool _ _ _,.str_bool _ _ _,.str_bool _ _ _⟩
  | int i t=>cases e;exact⟨.str_int _ _ _ _,.str_int _ _ _ _,.str_int _ _ _ _⟩
  | str x t=>cases e;exact⟨.str_str _ _ _ _,.str_str _ _ _ _,.str_str _ _ _ _⟩
  | tup xs p=>cases e;exact⟨.str_tuple _ _ p hu,.str_tuple _ _ p hu,.str_tuple _ _ p hu⟩
  | lst p=>cases e;exact⟨.str_list _ _ p hu,.str_list _ _ p hu,.str_list _ _ p hu⟩
 | tup zs g=>cases d' with
  | non=>cases e;exact⟨.tuple_none g hu,.tuple_none g hu,.tuple_none g hu⟩
  | bl b=>cases e;exact⟨.tuple_bool _ g hu,.tuple_bool _ g hu,.tuple_bool _ g hu⟩
  | int i t=>cases e;exact⟨.tuple_int _ _ g hu,.tuple_int _ _ g hu,.tuple_int _ _ g hu⟩
  | str x t=>cases e;exact⟨.tuple_str _ _ g hu,.tuple_str _ _ g hu,.tuple_str _ _ g hu⟩
  | tup xs p=>exact absurd rfl (nt _ _ rfl)
  | lst p=>cases e;exact⟨.tuple_list g p hu,.of_refs (λz=>by subst z;exact zu g p)<|.tuple_list g p hu,.tuple_list g p hu⟩
 | lst g=>cases d' with
  | non=>cases e;exact⟨.list_none g hu,.list_none g hu,.list_none g hu⟩
  | bl b=>cases e;exact⟨.list_bool _ g hu,.list_bool _ g hu,.list_bool _ g hu⟩
  | int i t=>cases e;exact⟨.list_int _ _ g hu,.list_int _ _ g hu,.list_int _ _ g hu⟩
  | str x t=>cases e;exact⟨.list_str _ _ g hu,.list_str _ _ g hu,.list_str _ _ g hu⟩
  | tup xs p=>cases e;exact⟨.list_tuple g p hu,.of_refs (λz=>by subst z;exact zu p g)<|.list_tuple g p hu,.list_tuple g p hu⟩
  | lst p=>cases e
def uH{a:A}{x:V}(h:AV X.K ρ H a x)(e:Jh S a=some (.tup xs)):a=.tup xs/\∃p vs,x=.ref p/\H p=some (.tup vs)/\AVs X.K ρ H xs vs:=by
 cases h with
 | tup h r=>cases e;exact⟨rfl,_,_,rfl,h,r⟩
 | ref h=>obtain⟨_,_,z⟩:=bg.mp e;cases z
 | _=>cases e
def u9{i:Nat}{x:V}(h:AV X.K ρ H (.ref i) x):∃p,x=.ref p/\ρ[i]?=some p:=by
 cases h with
 | ref h=>exact⟨_,rfl,h⟩
def Ed{a:A}(e:Jh S a=some .lst):∃i,a=.ref i:=by
 cases a with
 | ref i=>exact⟨i,rfl⟩
 | _=>cases e
def Em{n:Nat}{a:A}{k:Bool}(e:oi S (n+1) a b=some k):(∃i j xs ys,a=.ref i/\b=.ref j/\gm S i=some xs/\gm S j=some ys/\nZ (oi S n) xs ys=some k)\/(∃h h',Jh S a=some h/\Jh S b=some h'/\F7 (oi S n) h h'=some k/\(h=.lst->h'≠.lst)):=by
 unfold oi at e;split at e
 ·obtain⟨xs,e1,e⟩:=bN.mp e;obtain⟨ys,e2,e⟩:=bN.mp e;exact .inl ⟨_,_,xs,ys,rfl,rfl,e1,e2,e⟩
 ·rename_i d;obtain⟨h,e1,e⟩:=bN.mp e;obtain⟨h',e2,e⟩:=bN.mp e;refine .inr ⟨h,h',e1,e2,e,λf g=>?_⟩;subst f g;obtain⟨i,rfl⟩:=Ed e1;obtain⟨j,rfl⟩:=Ed e2;exact d i j rfl rfl
def GK{f:A->A->bi}{k:Bool}(d:KdV s h u)(d':KdV s h' u)(nt:∀xs ys,h=.tup xs->h'≠.tup ys)(e:F7 f h h'=some k):k=true:=by
 cases d with
 | non=>cases d';exact(aR e).symm
 | bl b=>cases d';exact(aR e).symm.trans (cD b)
 | int b=>cases d';exact(aR e).symm.trans (cD b)
 | str b=>cases d';exact(aR e).symm.trans (cD b)
 | tup xs p=>cases d' with
  | tup=>exact absurd rfl (nt _ _ rfl)
  | lst q=>exact(zu p q).elim
 | lst p=>cases d' with
  | tup _ q=>exact(zu q p).elim
  | lst q=>cases e
def xw{f:A->A->bi}(hf:∀a b x u k,AV X.K ρ H a x->AV X.K ρ H b x->RelV x u->f a b=some k->k=true):∀{xs ys:ae}{vs:List V}{us:ar}{k:Bool},AVs X.K ρ H xs vs->AVs X.K ρ H ys vs->Vals vs us->nZ f xs ys=some k->k=true:=by
 intro xs ys vs us k h1 h2 q e
 induction q generalizing xs ys k with
 | nil=>cases h1;cases h2;exact(aR e).symm
 | cons m _ d=>
  cases h1 with
  | cons h t=>cases h2 with
   | cons h' j=>
    obtain⟨p,e1,e⟩:=bN.mp e;obtain⟨q,e2,g⟩:=bg.mp e;rw[<- g,hf _ _ _ _ p h h' m e1,d t j e2];rfl
def Ax(h h':Sh):(∃xs ys,h=.tup xs/\h'=.tup ys)\/(∀xs ys,h=.tup xs->h'≠.tup ys):=by
 cases h with
 | tup xs=>cases h' with
  | tup ys=>exact .inl ⟨xs,ys,rfl,rfl⟩
  | _=>exact .inr λ_ _ _ z=>nomatch z
 | _=>exact .inr λ_ _ z=>nomatch z
theorem vD(I:Inv X pins σ H s)(R:Rel X.K ρ H S):∀(n:Nat) (a b:A) (x:V) (u:aa) (k:Bool),AV X.K ρ H a x->AV X.K ρ H b x->RelV x u->oi S n a b=some k->k=true
 | 0,_,_,_,_,_,_,_,_,e=>nomatch e
 | n+1,a,b,x,u,k,ha,hb,ru,e=>by
  rcases Em e with⟨i,j,xs,ys,rfl,rfl,e1,e2,e⟩|⟨h,h',e1,e2,e,_⟩
  ·obtain⟨p,rfl,h1⟩:=u9 ha;obtain⟨q,z,h2⟩:=u9 hb
   cases z
   obtain⟨m,d,r1⟩:=R.lst h1<|gF e1;obtain⟨g,f,r2⟩:=R.lst h2<|gF e2;rw[d]at f
   cases f
   obtain⟨us,q,_⟩:=I.list<|jh.of d;exact xw (λa b x u k=>vD I R n a b x u k) r1 r2 q e
  ·rcases Ax h h' with⟨xs,ys,rfl,rfl⟩|t
   ·obtain⟨rfl,p,m,rfl,d,r1⟩:=uH ha e1;obtain⟨rfl,q,g,z,f,r2⟩:=uH hb e2
    cases z
    have:=I.uo (kO.of d)<|kO.of f;subst this;obtain⟨us,q,_⟩:=I.tuple<|kO.of d;exact xw (λa b x u k=>vD I R n a b x u k) r1 r2 q e
   ·exact GK (Af I R ha ru e1) (Af I R hb ru e2) t e
abbrev sX (f:A->A->bi)(xs ys:ae)(j:Nat):Bool:=match xs[j]?,ys[j]? with
 | some x,some y=>(f x y).getD true
 | _,_=>true
theorem rK{f:A->A->bi}:∀{xs ys:ae}{k:Bool},nZ f xs ys=some k->k=((List.range<|min xs.length ys.length).all (sX f xs ys) && xs.length == ys.length)/\∀j x y,xs[j]?=some x->ys[j]?=some y->f x y=some (sX f xs ys j)
 | [],[],k,e=>⟨(aR e).symm,λj x y h=>by simp at h⟩
 | [],_::_,k,e=>⟨(aR e).symm,λj x y h=>by simp at h⟩
 | _::_,[],k,e=>⟨(aR e).symm,λj x y _ h=>by simp at h⟩
 | x::xs,y::ys,k,e=>by
  unfold nZ at e
  cases e1:f x y with
  | none=>rw[e1]at e;cases e
  | some p=>
   rw[e1]at e;obtain⟨q,e2,m⟩:=bg.mp e;obtain⟨h1,h2⟩:=rK e2;have g:sX f (x::xs) (y::ys) 0=p:=by simp[sX,e1]
   have ps:∀j,sX f (x::xs) (y::ys) (j+1)=sX f xs ys j:=λj=>by simp[sX]
   refine⟨?_,λj a b d hb=>?_⟩
   ·rw[<- m,h1,bB,bB,Nat.succ_min_succ,eG,List.all_cons,List.all_map,g];have:(sX f (x::xs) (y::ys) ∘ Nat.succ)=sX f xs ys:=funext ps;rw[this,Bool.and_assoc];simp
   ·cases j with
    | zero=>
     simp at d hb;subst d hb;rw[g];exact e1
    | succ j=>rw[ps];exact h2 j a b (by simpa using d)<|by simpa using hb
def rH{f:A->A->bi}(hf:∀a b x y u v k,AV X.K ρ H a x->AV X.K ρ H b y->RelV x u->RelV y v->f a b=some k->SeqAt.EqAt B s u v k){us ts:ar}{k:Bool}
  (r1:AVs X.K ρ H xs vs) (r2:AVs X.K ρ H ys ws) (q1:Vals vs us) (q2:Vals ws ts) (e:nZ f xs ys=some k):∀j (h1:j<us.toArray.size) (h2:j<ts.toArray.size),SeqAt.EqAt B s us.toArray[j] ts.toArray[j] (sX f xs ys j):=by
 intro j h1 h2;have N:=r1.length;have O:=r2.length;have M:=q1.length;have L:=q2.length;have hx:j<xs.length:=by simp at h1;lia
 have hy:j<ys.length:=by simp at h2;lia
 have e1:xs[j]?=some xs[j]:=aF hx;have e2:ys[j]?=some ys[j]:=aF hy;obtain⟨x,ex,J⟩:=r1.get e1;obtain⟨y,d,m⟩:=r2.get e2;obtain⟨u,G,F⟩:=q1.get ex;obtain⟨t,z,rt⟩:=q2.get d;have C:us.toArray[j]=u:=by
  have:us[j]?=some us.toArray[j]:=by simp at h1;simp[h1]
  rw[G]at this;exact(aR this).symm
 have g:ts.toArray[j]=t:=by
  have:ts[j]?=some ts.toArray[j]:=by simp at h2;simp[h2]
  rw[z]at this;exact(aR this).symm
 rw[C,g];exact hf _ _ x y u t _ J m F rt<|(rK e).2 j _ _ e1 e2
def in1_units(B:au):B.in1.units=B.units+1:=rfl
theorem A5(I:Inv X pins σ H s)(R:Rel X.K ρ H S):∀(n:Nat) (B:au) (a b:A) (x y:V) (u v:aa) (k:Bool),B.units+n<cLine->AV X.K ρ H a x->AV X.K ρ H b y->RelV x u->RelV y v->oi S n a b=some k->Al B s u v k
 | 0,_,_,_,_,_,_,_,_,_,_,_,_,_,e=>nomatch e
 | n+1,B,a,b,x,y,u,v,k,hu,ha,hb,rx,ry,e=>by
  have f:B.units<cLine:=()
  have d:∀a b x y u v k,AV X.K ρ H a x->AV X.K ρ H b y->RelV x u->RelV y v->oi S n a b=some k->SeqAt.EqAt B.in1 s u v k:=λa b x y u v k h1 h2 L G Y=>(A5 I R n B.in1 a b x y u v k (by rw[in1_units];lia) h1 h2 L G Y).2.1;have same:=λ(z:y=x)=>vD I R (n+1) a b x u k ha (z ▸ hb) rx e;have m:∀{p q:aj},x=.ref p->y=.ref q->u=.ref p->v=.ref q->SeqAt.RcAt B s u v k->SeqAt.EqAt B s u v k:=λ{p q} g t z3 z4 h=>by
   subst z3 z4;by_cases hp:p=q
   ·subst hp;rw[same<|t.trans g.symm];exact .same _
   ·exact .of_refs hp h
  rcases Em e with⟨i,j,xs,ys,rfl,rfl,e1,e2,e⟩|⟨h,h',e1,e2,e,_⟩
  ·obtain⟨p,rfl,h1⟩:=u9 ha;obtain⟨q,rfl,h2⟩:=u9 hb;obtain⟨U,L,r1⟩:=R.lst h1<|gF e1;obtain⟨P,G,r2⟩:=R.lst h2<|gF e2;obtain⟨us,F,p1,_⟩:=I.list<|jh.of L;obtain⟨ts,C,p2,_⟩:=I.list<|jh.of G;have M:=m rfl rfl rx ry
   cases(show u=Value.ref p from rx)
   cases(show v=Value.ref q from ry)
   have Z:=r1.length;have l2:=r2.length;have W:=F.length;have l4:=C.length;have ek:=(rK e).1;by_cases N:xs.length=ys.length
   ·rw[<- N,Nat.min_self,cD,Bool.and_true]at ek;have J:us.toArray.size=ts.toArray.size:=by simp;lia
    have g:=SeqAt.RcAt.lists p1.isList p2.isList J f<|rH d r1 r2 F C e;have t:=SeqAt.RcNeAt.lists p1.isList p2.isList J f<|rH d r1 r2 F C e;rw[aU,<- W,<- Z,<- ek]at g t;exact⟨g,M g,t⟩
   ·have:(xs.length == ys.length)=false:=by simpa using N
    rw[this,Bool.and_false]at ek;subst ek;have J:(us.toArray.size != ts.toArray.size)=true:=by simp;lia
    have g:=SeqAt.RcAt.lists_lengths p1.isList p2.isList J f;exact⟨g,M g,SeqAt.RcNeAt.lists_lengths p1.isList p2.isList J f⟩
  ·rcases Ax h h' with⟨xs,ys,rfl,rfl⟩|O
   ·obtain⟨rfl,p,U,rfl,L,r1⟩:=uH ha e1;obtain⟨rfl,q,P,rfl,G,r2⟩:=uH hb e2;have M:=m rfl rfl rx ry
    cases(show u=Value.ref p from rx)
    cases(show v=Value.ref q from ry)
    obtain⟨us,F,p1,_⟩:=I.tuple<|kO.of L;obtain⟨ts,C,p2,_⟩:=I.tuple<|kO.of G;have ek:=(rK e).1;have g:=SeqAt.RcAt.tuples p1 p2 f<|rH d r1 r2 F C e;have t:=SeqAt.RcNeAt.tuples p1 p2 f<|rH d r1 r2 F C e;rw[aU,aU,<- F.length,<- C.length,<- r1.length,<- r2.length,<- ek]at g t;exact⟨g,M g,t⟩
   ·exact LJ f (Af I R ha rx e1) (Af I R hb ry e2) O e
end
section
variable {X:Cx}
abbrev qN (neg:Bool)(a b:A)(S:gu):R A:=opt (oi S 12 a b) λk=>.ok (.bl<|if neg then !k else k) S
def xM(hu:X.A.units+64<cLine):jZ X (compareOp .Eq) (r2 X<|qN false):=λpins s σ H x y v u Q I rx ry h9=>by
 x_go;obtain⟨k,e,h⟩:=gE h;exact(A5 I R 12 X.A a b x y v u k (by omega) va vb rx ry e).1 _ _ _ _ ⟨.bl _,H,I,rfl,h _ _ _ .refl R<|.bl _⟩
def yF(hu:X.A.units+64<cLine):jZ X (compareOp .NotEq) (r2 X<|qN true):=λpins s σ H x y v u Q I rx ry h9=>by
 x_go;obtain⟨k,e,h⟩:=gE h;exact(A5 I R 12 X.A a b x y v u k (by omega) va vb rx ry e).2.2 _ _ _ _ ⟨.bl _,H,I,rfl,h _ _ _ .refl R<|.bl _⟩
end
section
variable {X:Cx}{pos:Pos}{a b:aC}
meta abbrev Pt:=ae->gu->R (Option Int)
abbrev Ld:Pt:=λ_ S=>.ok none S
abbrev KZ (c:Ex):Pt:=λτ S=>(c τ S).bind λa S1=>match a with
 | .int i=>.ok (some i) S1
 | _=>.no
abbrev Gu (xs:ae)(lo hi:Option Int):ae:=(xs.drop<|HT.Lz xs.length 0 lo).take<|HT.Lz xs.length xs.length hi-HT.Lz xs.length 0 lo
abbrev L6 (a:A)(lo hi:Option Int)(S:gu):R A:=match a with
 | .ref n=>opt (gm S n) λxs=>.ok (.ref S.length) (S++[.lst<|Gu xs lo hi])
 | .frz xs=>.ok (.ref S.length) (S++[.lst<|Gu xs lo hi])
 | .tup xs=>gd (¬(HT.Lz xs.length 0 lo=0/\HT.Lz xs.length xs.length hi=xs.length)) (.ok (.tup<|Gu xs lo hi) S)
 | _=>.no
abbrev N_ (c:Ex)(lo hi:Pt):Ex:=λτ S=>(c τ S).bind λa S1=>(lo τ S1).bind λl S2=>(hi τ S2).bind λu S3=>L6 a l u S3
abbrev Es (a:A)(S:gu):R A:=match a with
 | .ref n=>opt (gm S n) λxs=>.ok (.ref S.length) (S++[.lst xs.reverse])
 | .tup xs=>.ok (.tup xs.reverse) S
 | _=>.no
def IQ{cp:Pos}{c:Ex}(he:AE X e c):AE X (.Subscript e (.Slice none none (some<|.UnaryOp .USub (.Constant (.int 1) kk cp) up) p2) pos) (G2 Es c):=λpins s σ H Q I h9=>by
 z_go;have hb:=gz h
 cases hc:c τ S with
 | no=>rw[hc]at hb;exact hb.elim
 | ex x S1=>
  rw[hc]at hb;exact zm he pins s σ H Q I ⟨ρ,S,τ,R,r,by rw[hc];exact hb⟩
 | ok a S1=>
  rw[hc]at hb;have hb:(Es a S1).post (rL X ρ H Q) (XE X ρ H):=hb
  cases a with
  | tup xs=>
   refine zm he pins s σ H Q I ⟨ρ,S,τ,R,r,?_⟩;rw[hc];intro ρ1 H1 x e1 d f
   cases f with
   | tup h1 r1=>exact⟨_,_,rfl,(kO.of h1),uP d r1.reverse e1 hb⟩
  | ref n=>
   refine GV he pins s σ H Q I ⟨ρ,S,τ,R,r,?_⟩;rw[hc];intro ρ1 H1 x e1 d f;obtain⟨xs,hn,h⟩:=gE hb
   cases f with
   | ref hp=>
    obtain⟨g,h1,r1⟩:=d.lst hp<|gF hn;exact⟨_,_,rfl,jh.of h1,kj d r1.reverse e1 h⟩
  | _=>exact hb.elim
abbrev gI (f:ae->gu->R A)(d:nu):Ex:=λτ S=>(d τ S).bind λg S1=>f g S1
def xN{f:ae->gu->R A}{d:nu}{H:Hp}{Q:VK}(h:tE X (gI f d) σ H Q):MN (rN X f) (tL X d) σ H Q:=by
 kln_w;exact⟨ρ,S,τ,R,r,gv (gz h) .refl λg S1 h1 ρ1 H1 m e1 k j=>⟨ρ1,S1,g,k,j,gv h1 e1 λ_ _ z=>z.ext e1⟩⟩
variable {x:Str}{p:Pos}{e:aC}{es:List aC}{id T:String}{f:ae->gu->R A}{d:nu}
def gD(hc:ir X (.builtin id)<|rN X f)(hm:X.mg x=none)(hv:bootBuiltins x=some (.builtin id))(ha:AL X (e::es) d)(hg:Gl X x:=by rfl)(hn:x ≠ "__name__" := by decide)(hdb:(x == ("__debug__" : Str))=false:=by decide)
  (he:starEach (e::es) X.env=(false,eval e X.env)::starEach es X.env:=by rfl) (hpl:(backTo pos<|starEach es X.env).any (·.1)=false:=by rfl):AE X (.Call (.Name x p) (e::es) [] pos) (gI f d):=
 PE.imp (E2 hc hg hm hv ha hn hdb he hpl) λ_ _ _ h=>xN h
def kU(hc:ir X (.type T)<|rN X f)(hm:X.mg x=none)(hv:bootBuiltins x=some (.type T))(ha:AL X (e::es) d)(hg:Gl X x:=by rfl)(hn:x ≠ "__name__" := by decide)(hdb:(x == ("__debug__" : Str))=false:=by decide)
  (he:starEach (e::es) X.env=(false,eval e X.env)::starEach es X.env:=by rfl) (hpl:(backTo pos<|starEach es X.env).any (·.1)=false:=by rfl):AE X (.Call (.Name x p) (e::es) [] pos) (gI f d):=
 PE.imp (BY hc hg hm hv ha hn hdb he hpl) λ_ _ _ h=>xN h
def qT(hm:X.mg x=none)(hv:bootBuiltins x=some (.type T))(hg:Gl X x:=by rfl)(hn:x ≠ "__name__" := by decide)(hdb:(x == ("__debug__" : Str))=false:=by decide):AE X (.Name x pos) (eC<|.ty T):=
 PE.imp (F_ (v:=.ty T) hg hm hv rfl hn hdb) λσ H Q ⟨ρ,S,τ,R,r,h⟩=>h ρ H _ .refl R<|.ty T
abbrev A.seq (S:gu):A->Option (ae)
 | .tup xs=>some xs
 | .frz xs=>some xs
 | .ref n=>gm S n
 | _=>none
def De{K:aq}{H:Hp}{x:A}{v:V}(R:Rel K ρ H S)(h:AV K ρ H x v)(e:x.seq S=some xs):∃p vs,v=.ref p/\(jh K H p vs\/kO K H p vs)/\AVs K ρ H xs vs:=by
 cases h with
 | tup h r=>cases aR e;exact⟨_,_,rfl,.inr<|kO.of h,r⟩
 | frz h r=>cases aR e;exact⟨_,_,rfl,.inl h.Hg,r⟩
 | ref h=>
  obtain⟨vs,h1,r1⟩:=R.lst h<|gF e;exact⟨_,vs,rfl,.inl<|jh.of h1,r1⟩
 | _=>cases e
def Jg{K:aq}{H:Hp}{x:A}(h:AVs K ρ H [x] vs):∃v,vs=[v]/\AV K ρ H x v:=by
 cases h with
 | cons h t=>cases t;exact⟨_,rfl,h⟩
def M_{K:aq}{H:Hp}{x:A}(h:AVs K ρ H [x,y] vs):∃v w,vs=[v,w]/\AV K ρ H x v/\AV K ρ H y w:=by
 cases h with
 | cons h t=>obtain⟨w,rfl,h'⟩:=Jg t;exact⟨_,_,rfl,h,h'⟩
abbrev f1 (g:A->gu->R A):ae->gu->R A:=λd S=>match d with
 | [x]=>g x S
 | _=>.no
abbrev f2 (g:A->A->gu->R A):ae->gu->R A:=λd S=>match d with
 | [x,y]=>g x y S
 | _=>.no
def GP{g:A->gu->R A}{P:A->gu->Prop}{E:Str->gu->Prop}(h:(f1 g as S).post P E):∃x,as=[x]/\(g x S).post P E:=by
 match as,h with
 | [],h=>exact h.elim
 | [x],h=>exact⟨x,rfl,h⟩
 | _::_::_,h=>exact h.elim
def GF{g:A->A->gu->R A}{P:A->gu->Prop}{E:Str->gu->Prop}(h:(f2 g as S).post P E):∃x y,as=[x,y]/\(g x y S).post P E:=by
 match as,h with
 | [],h=>exact h.elim
 | [_],h=>exact h.elim
 | [x,y],h=>exact⟨x,y,rfl,h⟩
 | _::_::_::_,h=>exact h.elim
def ID{g:A->gu->R A}{H:Hp}{Q:VK}(h:rN X (f1 g) vs H Q):∃v,vs=[v]/\∃ρ S x,Rel X.K ρ H S/\AV X.K ρ H x v/\(g x S).post (rL X ρ H Q) (XE X ρ H):=by
 obtain⟨ρ,S,d,R,v,h⟩:=h;obtain⟨x,rfl,h⟩:=GP h;obtain⟨w,rfl,hv⟩:=Jg v;exact⟨w,rfl,ρ,S,x,R,hv,h⟩
def Me{g:A->A->gu->R A}{H:Hp}{Q:VK}(h:rN X (f2 g) vs H Q):∃v w,vs=[v,w]/\∃ρ S x y,Rel X.K ρ H S/\AV X.K ρ H x v/\AV X.K ρ H y w/\(g x y S).post (rL X ρ H Q) (XE X ρ H):=by
 obtain⟨ρ,S,j,R,v,h⟩:=h;obtain⟨x,y,rfl,h⟩:=GF h;obtain⟨w,f,rfl,hv,d⟩:=M_ v;exact⟨w,f,rfl,ρ,S,x,y,R,hv,d,h⟩
abbrev jd (x:A)(S:gu):R A:=match x with
 | .str x=>gd (x.length<=sizeLine) (.ok (.int x.length) S)
 | .tup xs=>.ok (.int xs.length) S
 | .frz xs=>.ok (.int xs.length) S
 | .ref n=>opt (gm S n) λxs=>.ok (.int xs.length) S
 | _=>.no
def i6:ir X (.builtin "len") (rN X<|f1 jd):=ir.imp Dm λf H Q h0=>by
 ksr_p;clear h0
 cases hv with
 | str z=>
  obtain⟨d,h⟩:=gS h;exact⟨_,_,rfl,⟨d,rfl⟩,h _ _ _ .refl R<|.int _⟩
 | @tup p xs us h1 r=>exact⟨_,us.length,rfl,.inr ⟨us,(kO.of h1),rfl⟩,by rw[<- r.length];exact h _ _ _ .refl R<|.int _⟩
 | @frz p xs us h1 r=>exact⟨_,us.length,rfl,.inl ⟨us,h1.Hg,rfl⟩,by rw[<- r.length];exact h _ _ _ .refl R<|.int _⟩
 | ref hp=>
  kpc_g;obtain⟨us,h1,r⟩:=R.lst hp<|gF hn;exact⟨_,us.length,rfl,.inl ⟨us,jh.of h1,rfl⟩,by rw[<- r.length];exact h _ _ _ .refl R<|.int _⟩
 | _=>exact h.elim
abbrev MY (x:A)(S:gu):R A:=match x with
 | .int i=>.ok (.int<|if i<0 then -i else i) S
 | _=>.no
abbrev w6 (x y:A)(S:gu):R A:=match x,y with
 | .int i,.int j=>.ok (.int<|if j>i then j else i) S
 | _,_=>.no
def Ei(hc:X.calm=true):ir X (.builtin "max") (rN X<|f2 w6):=ir.imp (A8 hc) λg H Q h0=>by
 obtain⟨w,f,rfl,ρ,S,x,y,R,hv,d,h⟩:=Me h0;clear h0
 cases hv<;>first|exact h.elim|(cases d<;>first|exact h.elim|exact⟨_,_,rfl,h _ _ _ .refl R<|.int _⟩)
abbrev Ft (x y:A)(S:gu):R A:=match x,y with
 | .int i,.int j=>.ok (.int<|if j<i then j else i) S
 | _,_=>.no
def Kh(hc:X.calm=true):ir X (.builtin "min") (rN X<|f2 Ft):=ir.imp (Bb hc) λg H Q h0=>by
 obtain⟨w,f,rfl,ρ,S,x,y,R,hv,d,h⟩:=Me h0;clear h0
 cases hv<;>first|exact h.elim|(cases d<;>first|exact h.elim|exact⟨_,_,rfl,h _ _ _ .refl R<|.int _⟩)
abbrev zB (x:A)(S:gu):R A:=match x with
 | .int i=>.ok (.int i) S
 | .bl k=>.ok (.int<|if k then 1 else 0) S
 | .str y=>opt (PySem.intText? y) λn=>gd (y.length<=640) (.ok (.int n) S)
 | _=>.no
def JZ:ir X (.type "int") (rN X<|f1 zB):=λpins s σ H xs us Q I d h0=>by
 ksr_p;clear h0
 cases hv with
 | int i=>exact t8 pins s σ H _ us Q I d (.inl ⟨i,rfl,h _ _ _ .refl R<|.int _⟩)
 | bl k=>exact t8 pins s σ H _ us Q I d (.inr ⟨k,rfl,h _ _ _ .refl R<|.int _⟩)
 | str y=>
  obtain⟨n,hn,h⟩:=gE h;obtain⟨f,h⟩:=gS h;exact BO pins s σ H _ us Q I d ⟨y,n,rfl,f,hn,h _ _ _ .refl R<|.int _⟩
 | _=>exact h.elim
abbrev u0 (x y:A)(S:gu):R A:=match x,y with
 | .int i,.int j=>.ok (.rng i j) S
 | _,_=>.no
def EZ:ir X (.type "range") (rN X<|f2 u0):=ir.imp u_ λk H Q h0=>by
 obtain⟨w,g,rfl,ρ,S,x,y,R,hv,d,h⟩:=Me h0;clear h0
 cases hv with
 | int i=>
  cases d with
  | int j=>
   refine⟨i,j,rfl,λp hp=>?_⟩;obtain⟨ex,f⟩:=R.im (u:=.rng i j) hp;exact h ρ _ _ ex f<|.rng iF
  | _=>exact h.elim
 | _=>exact h.elim
abbrev uw (i j:Int):Prop:=(-(2 ^ 62)<=i/\i<2 ^ 62/\-(2 ^ 62)<=j/\j<2 ^ 62)/\(j-i).toNat<=1000
instance (i j:Int):Decidable (uw i j):=by unfold uw;infer_instance
abbrev mF (x:A)(S:gu):R A:=match x with
 | .rng i j=>gd (uw i j) (.ok (.ref S.length)<|S++[.lst<|(iw i j).map .int])
 | .tup xs=>.ok (.ref S.length) (S++[.lst xs])
 | .frz xs=>.ok (.ref S.length) (S++[.lst xs])
 | .ref n=>opt (gm S n) λxs=>.ok (.ref S.length) (S++[.lst xs])
 | _=>.no
def sL(hc:X.calm=true):ir X (.type "list") (rN X<|f1 mF):=λpins s σ H d us Q I rx h0=>by
 ksr_p;clear h0
 cases hv with
 | @rng p i j hp=>
  obtain⟨f,h⟩:=gS h;exact tu hc pins s σ H _ us Q I rx ⟨p,i,j,rfl,hp,f.1,f.2,kj R (qd _) .refl h⟩
 | @tup p xs d h1 r=>exact mQ pins s σ H _ us Q I rx ⟨p,d,rfl,.inr<|kO.of h1,kj R r .refl h⟩
 | @frz p xs d h1 r=>exact mQ pins s σ H _ us Q I rx ⟨p,d,rfl,.inl h1.Hg,kj R r .refl h⟩
 | @ref p n hp=>
  kpc_g;obtain⟨d,h1,r⟩:=R.lst hp<|gF hn;exact mQ pins s σ H _ us Q I rx ⟨p,d,rfl,.inl<|jh.of h1,kj R r .refl h⟩
 | _=>exact h.elim
abbrev Fw (x:A)(S:gu):R A:=match x with
 | .rng i j=>gd (uw i j) (.ok (.tup<|(iw i j).map .int) S)
 | .tup xs=>.ok (.tup xs) S
 | .frz xs=>.ok (.tup xs) S
 | .ref n=>opt (gm S n) λxs=>.ok (.tup xs) S
 | _=>.no
abbrev A.G4:ae->Option (List Bool)
 | []=>some []
 | .bl b::xs=>(A.G4 xs).map (b::·)
 | _=>none
theorem Cp{K:aq}{H:Hp}:∀{xs:ae}{vs:List V}{bs:List Bool},AVs K ρ H xs vs->A.G4 xs=some bs->vs=bs.map V.bl
 | _,_,_,.nil,e=>by cases e;rfl
 | x::xs,_,bs,.cons h t,e=>by
  cases x with
  | bl b=>
   obtain⟨d,e1,rfl⟩:=bg.mp (show(A.G4 xs).map (b::·)=some bs from e)
   cases h
   rw[Cp t e1];rfl
  | _=>cases e
abbrev wY (x:A)(S:gu):R A:=match x with
 | .ref n=>opt (gm S n) λxs=>opt (A.G4 xs) λbs=>.ok (.bl<|bs.all λb=>b) S
 | _=>.no
def wK(hc:X.calm=true):ir X (.builtin "all") (rN X<|f1 wY):=ir.imp (A_ hc) λd H Q h0=>by
 ksr_p;clear h0
 cases hv with
 | @ref p n hp=>
  kpc_g;obtain⟨bs,hb,h⟩:=gE h;obtain⟨d,h1,r⟩:=R.lst hp<|gF hn;rw[Cp r hb]at h1;exact⟨p,bs,rfl,jh.of h1,h _ _ _ .refl R<|.bl _⟩
 | _=>exact h.elim
abbrev insI (x:Int):ag->ag
 | []=>[x]
 | y::ys=>if x<=y then x::y::ys else y::insI x ys
abbrev sortI:ag->ag
 | []=>[]
 | x::xs=>insI x<|sortI xs
theorem insI_perm(x:Int):∀ys:ag,(insI x ys).Perm (x::ys)
 | []=>dM _
 | y::ys=>by
  unfold insI;by_cases h:x<=y
  ·rw[aX h]
  ·rw[aZ h];exact((insI_perm x ys).cons y).trans (List.Perm.swap x y ys)
theorem sortI_perm:∀xs:ag,(sortI xs).Perm xs
 | []=>dM _
 | x::xs=>(insI_perm x<|sortI xs).trans<|(sortI_perm xs).cons x
theorem A0(x:Int):∀ys:ag,ys.Pairwise (·<=·)->(insI x ys).Pairwise (·<=·)
 | [],_=>cI _ _
 | y::ys,h=>by
  unfold insI;obtain⟨h1,h2⟩:=fL.mp h;by_cases hx:x<=y
  ·rw[aX hx];exact fL.mpr ⟨λz d=>(br.mp d).elim (λe=>e ▸ hx) λd=>Int.le_trans hx<|h1 z d,h⟩
  ·rw[aZ hx];refine fL.mpr ⟨λz d=>?_,A0 x ys h2⟩
   rcases br.mp ((insI_perm x ys).mem_iff.mp d)with e|d
   ·subst e;lia
   ·exact h1 z d
theorem qo:∀xs:ag,(sortI xs).Pairwise (·<=·)
 | []=>List.Pairwise.nil
 | x::xs=>A0 x _<|qo xs
abbrev sP (x:A)(S:gu):R A:=opt (x.seq S) λxs=>opt (A.ints xs) λd=>gd (d.length<64)<|.ok (.ref S.length)<|S++[.lst<|(sortI d).map .int]
def Ao:ir X (.builtin "sorted") (rN X<|f1 sP):=ir.imp vj λk H Q h0=>by
 ksr_p;clear h0;kpc_g;obtain⟨d,hb,h⟩:=gE h;obtain⟨j,h⟩:=gS h;obtain⟨p,us,rfl,hs,r⟩:=De R hv hn;rw[yO r hb]at hs;refine⟨p,d,rfl,hs,j,λl f g hp hw=>?_⟩;have:f=sortI d:=Gk (hp.trans (sortI_perm d).symm) hw<|qo d;rw[this];exact kj R (qd _) .refl h l g
abbrev A.kd:A->gu->Option Kd
 | .non,_=>some .non
 | .bl _,_=>some .bl
 | .int _,_=>some .int
 | .str _,_=>some .str
 | .tup _,_=>some .tup
 | .ref n,S=>(gm S n).map λ_=>.lst
 | _,_=>none
def Gp{K:aq}(k:Kd):PySem.W.kitOne K k.ty (.type "str")=some (decide<|k=.str):=by cases k<;>rfl
abbrev qY (k:Kd)(c:String):bi:=if c = "int" then some (decide<|k=.int\/k=.bl)else if c = "bool" then some (decide<|k=.bl)else if c = "tuple" then some (decide<|k=.tup)else if c = "list" then some (decide<|k=.lst)else if c = "str" then some (decide<|k=.str)else none
def Ac{K:aq}{k:Kd}{b:Bool}(h:qY k c=some b):PySem.W.kitOne K k.ty (.type c)=some b:=by
 unfold qY at h;split at h
 ·rename_i e;subst e;rw[<- h];exact GR k
 ·split at h
  ·rename_i e;subst e;rw[<- h];exact Fv k
  ·split at h
   ·rename_i e;subst e;rw[<- h];exact kit_tuple k
   ·split at h
    ·rename_i e;subst e;rw[<- h];exact Eb k
    ·split at h
     ·rename_i e;subst e;rw[<- h];exact Gp k
     ·cases h
abbrev rj (x y:A)(S:gu):R A:=match y with
 | .ty c=>opt (x.kd S) λk=>opt (qY k c) λb=>.ok (.bl b) S
 | _=>.no
def LL{K:aq}{H:Hp}{x:A}{v:V}{k:Kd}(R:Rel K ρ H S)(h:AV K ρ H x v)(e:x.kd S=some k):(∃p vs,v=.ref p/\kO K H p vs/\k=.tup)\/IT H v k:=by
 cases h with
 | non=>cases e;exact .inr rfl
 | bl b=>cases e;exact .inr ⟨b,rfl⟩
 | int i=>cases e;exact .inr ⟨i,rfl⟩
 | str i=>cases e;exact .inr ⟨i,rfl⟩
 | tup h r=>cases e;exact .inl ⟨_,_,rfl,(kO.of h),rfl⟩
 | ref h=>
  obtain⟨xs,e1,e2⟩:=bg.mp e;obtain⟨vs,h1,_⟩:=R.lst h (gF e1)
  cases e2
  exact .inr ⟨_,vs,rfl,h1⟩
 | _=>cases e
def qU:ir X (.builtin "isinstance") (rN X<|f2 rj):=λpins s σ H m us Q I rx h0=>by
 obtain⟨w,B,rfl,ρ,S,x,y,R,hv,f,h⟩:=Me h0;clear h0
 cases f with
 | ty c=>
  obtain⟨k,g,h⟩:=gE h;obtain⟨b,hb,d⟩:=gE h;have d:rL X ρ H Q (.bl b) S:=d;clear h
  rcases LL R hv g with⟨p,m,rfl,j,rfl⟩|hd
  ·obtain⟨G,C,rfl,r1,r2⟩:=vals2 rx;obtain⟨t,q,⟨o,h1,h2,_⟩,_⟩:=I.tuple j
   cases(show _=Value.ref p from r1)
   cases(show _=Value.type c from r2)
   exact b7 PySem.W.kitx_tuple I.vI ⟨o,h1,h2⟩ (Ac hb) (λz=>nomatch z) λF=>⟨.bl b,H,I.tok _,rfl,d _ _ _ .refl R<|.bl _⟩
  ·exact wQ (c:=c) pins s σ H _ us Q I rx ⟨w,_,b,rfl,hd.MW,Ac hb,d _ _ _ .refl R<|.bl _⟩
 | _=>exact h.elim
end
abbrev RS.post (r:RS)(N:ae->gu->Prop)(T:A->gu->Prop)(B C:ae->gu->Prop)(E:Str->gu->Prop):Prop:=match r with
 | .nx τ S=>N τ S
 | .rt a S=>T a S
 | .bk τ S=>B τ S
 | .ct τ S=>C τ S
 | .ex c S=>E c S
 | .no=>False
abbrev RS.of {α:Type}(r:R α)(f:α->gu->RS):RS:=match r with
 | .ok a S=>f a S
 | .ex c S=>.ex c S
 | .no=>.no
def of_post{α:Type}{r:R α}{f:α->gu->RS}{N B C:ae->gu->Prop}{T:A->gu->Prop}{E:Str->gu->Prop}(h:(RS.of r f).post N T B C E):r.post (λa S=>(f a S).post N T B C E) E:=by
 cases r<;>exact h
def RS.mono{r:RS}{N B C N' B' C':ae->gu->Prop}{T T':A->gu->Prop}{E E':Str->gu->Prop}(h:r.post N T B C E)(hn:∀τ S,N τ S->N' τ S)(ht:∀a S,T a S->T' a S)(hb:∀τ S,B τ S->B' τ S)(hc:∀τ S,C τ S->C' τ S)(he:∀c S,E c S->E' c S):r.post N' T' B' C' E':=by
 cases r with
 | nx τ S=>exact hn _ _ h
 | rt a S=>exact ht _ _ h
 | bk τ S=>exact hb _ _ h
 | ct τ S=>exact hc _ _ h
 | ex c S=>exact he _ _ h
 | no=>exact h.elim
abbrev AF (X:Cx)(ρ:ba)(H:Hp)(N:L2.St->Hp->Prop):ae->gu->Prop:=λf g=>∀ρ' H' d,Ext ρ ρ' H H'->Rel X.K ρ' H' g->SR X.K ρ' H' f d->N d H'
def AF.ext{H H':Hp}{N:L2.St->Hp->Prop}(h:AF X ρ H N τ S)(e:Ext ρ ρ' H H'):AF X ρ' H' N τ S:=λf H2 d e2=>h f H2 d<|e.trans e2
abbrev uy (X:Cx)(ρ:ba)(H:Hp)(D:Ends)(r:RS):Prop:=r.post (AF X ρ H D.nx) (rL X ρ H D.rt) (AF X ρ H D.bk) (AF X ρ H D.ct)<|XE X ρ H
def uy.ext{H H':Hp}{r:RS}(h:uy X ρ H D r)(e:Ext ρ ρ' H H'):uy X ρ' H' D r:=RS.mono h (λ_ _ z=>z.ext e) (λ_ _ z=>z.ext e) (λ_ _ z=>z.ext e) (λ_ _ z=>z.ext e) λ_ _ z=>z.ext e
abbrev tS (X:Cx)(c:Sm):TS:=λD σ H=>∃ρ S τ,Rel X.K ρ H S/\SR X.K ρ H τ σ/\uy X ρ H D (c τ S)
abbrev AS (X:Cx)(st:aE)(c:Sm):Prop:=PS X st<|tS X c
abbrev Ge (X:Cx)(sts:List aE)(c:Sm):Prop:=ve X sts<|tS X c
abbrev tG (X:Cx)(g:Tg):TG:=λv σ H Q=>∃ρ S τ a,Rel X.K ρ H S/\SR X.K ρ H τ σ/\AV X.K ρ H a v/\(g a τ S).post (AF X ρ H Q) (XE X ρ H)
abbrev AG (X:Cx)(e:aC)(g:Tg):Prop:=PG X e<|tG X g
meta abbrev FF:=ae->ae->gu->R (ae)
abbrev N6 (X:Cx)(g:FF):HQ:=λf σ H Q=>∃ρ S τ d,Rel X.K ρ H S/\SR X.K ρ H τ σ/\AVs X.K ρ H d f/\(g d τ S).post (AF X ρ H Q) (XE X ρ H)
abbrev L1 (X:Cx)(es:List aC)(g:FF):Prop:=K9 X es<|N6 X g
section
variable {X:Cx}{pos:Pos}{a b e:aC}{st:aE}{rest:List aE}{c d:Sm}
def PS.imp{t t':TS}(h:PS X st t)(i:∀D σ H,t' D σ H->t D σ H):PS X st t':=λpins s σ H D I q=>h pins s σ H D I<|i D σ H q
def ve.imp{t t':TS}(h:ve X rest t)(i:∀D σ H,t' D σ H->t D σ H):ve X rest t':=λpins s σ H D I q=>h pins s σ H D I<|i D σ H q
def PG.imp{t t':TG}(h:PG X e t)(i:∀v σ H Q,t' v σ H Q->t v σ H Q):PG X e t':=λpins s σ H v u Q I r q=>h pins s σ H v u Q I r<|i _ _ _ _ q
abbrev gW (i:Nat):Tg:=λa τ S=>.ok (τ.set i a) S
def gM{i:Nat}{x:Str}(hN:X.N.Nodup)(hi:X.N[i]?=some x:=by rfl)(hx:Loc X.env.scope x:=by first|exact Or.inl rfl|exact Or.inr rfl)(hf:X.fn x=true\/X.env.scope.names.lookup x=some .local:=by first|exact .inl rfl|exact .inr rfl|assumption):AG X (.Name x pos) (gW i):=
 PG.imp (vA hN hi hx hf) λv σ H Q ⟨ρ,S,τ,a,R,r,va,h⟩=>h ρ H _ .refl R<|r.set va
abbrev Cs:FF:=λd τ S=>match d with
 | []=>.ok τ S
 | _=>.no
abbrev uD (g:Tg)(gs:FF):FF:=λd τ S=>match d with
 | a::d=>(g a τ S).bind λτ1 S1=>gs d τ1 S1
 | []=>.no
def qf:L1 X [] Cs:=λpins s σ H d us Q I r ⟨ρ,S,τ,g,R,f,va,h⟩=>F4 pins s σ H d us Q I r (by
 cases va with
 | nil=>exact⟨rfl,h ρ H σ .refl R f⟩
 | cons _ _=>exact h.elim)
def ju{g:Tg}{gs:FF}(h1:AG X e g)(h2:L1 X es gs)(hs:(assignEach (e::es) X.env).map (·.2)=assign e X.env::(assignEach es X.env).map (·.2):=by rfl):L1 X (e::es) (uD g gs):=
 λpins s σ H m us Q I r ⟨ρ,S,τ,C,R,t,va,h⟩=>Cg h1 h2 hs pins s σ H m us Q I r (by
  cases va with
  | nil=>exact h.elim
  | cons f k=>exact⟨_,_,rfl,ρ,S,τ,_,R,t,f,gv (gz h) .refl λτ1 S1 h1 ρ1 H1 j e1 B d=>⟨ρ1,S1,τ1,_,B,d,k.ext e1,gv h1 e1 λ_ _ z=>z.ext e1⟩⟩)
abbrev DQ (n:Nat)(gs:FF):Tg:=λa τ S=>match a with
 | .tup xs | .ktu xs=>gd (xs.length=n) (gs xs τ S)
 | _=>.no
def rV{k n:Nat}{gs:FF}(hc:X.calm=true)(h:L1 X es gs)(hn:(assignEach es X.env).length=n:=by rfl)(hst:(assignEach es X.env).findIdx? (·.1)=none:=by rfl):AG X (.Tuple es k pos) (DQ n gs):=
 PG.imp (J3 hc h hn hst) λv σ H Q h9=>by
  obtain⟨ρ,S,τ,a,R,r,va,h⟩:=h9
  cases va with
  | tup h1 r1=>
   obtain⟨d,h⟩:=gS h;exact⟨_,_,rfl,kO.of h1,by rw[<- r1.length];exact d,ρ,S,τ,_,R,r,r1,h⟩
  | ktu h1 r1=>
   obtain⟨d,h⟩:=gS h;exact⟨_,_,rfl,.inr h1,by rw[<- r1.length];exact d,ρ,S,τ,_,R,r,r1,h⟩
  | _=>exact h.elim
abbrev wJ (o i v:A)(S:gu):R Unit:=match o,i with
 | .ref n,.int k=>opt (gm S n) λxs=>opt (uB xs.length k) λj=>.ok Unit.unit (S.set n<|.lst<|xs.set j v)
 | _,_=>.no
abbrev N9 (X:Cx):GI:=λo i v H Q=>∃ρ S f d g,Rel X.K ρ H S/\AV X.K ρ H f o/\AV X.K ρ H d i/\AV X.K ρ H g v/\(wJ f d g S).post (λ_ j=>∀ρ' H',Ext ρ ρ' H H'->Rel X.K ρ' H' j->Q H') (XE X ρ H)
def GB:Km X (N9 X):=λpins s σ H o i v B d u Q I g C F h9=>by
 obtain⟨ρ,S,K,J,G,R,h1,h2,f,h⟩:=h9
 cases h1 with
 | @ref p n hp=>
  cases h2 with
  | int k=>
   kpc_g;obtain⟨j,m,h⟩:=gE h;obtain⟨z,e,r⟩:=R.lst hp<|gF hn;obtain⟨ex,t⟩:=R.put hp (gF hn)<|r.set f j;exact set_list pins s σ H _ _ v B d u Q I g C F ⟨p,z,k,j,rfl,rfl,e,by rw[<- r.length];exact m,h _ _ ex t⟩
  | _=>exact h.elim
 | _=>exact h.elim
abbrev Kq (co ci:Ex):Tg:=λa τ S=>(co τ S).bind λo S1=>(ci τ S1).bind λi S2=>(wJ o i a S2).bind λ_ S3=>.ok τ S3
def uK{co ci:Ex}(ho:AE X o co)(hi:AE X i ci)
  (ha:∀v,assign (.Subscript o i pos) X.env v=(do
   let ov <- holding [v] (eval o X.env)
   let iv <- holding [v,ov] (eval i X.env)
   standAt pos
   holding [v,ov,iv] (setItem ov iv v)
   release [v,ov,iv] []):=by intro _;rfl):AG X (.Subscript o i pos) (Kq co ci):=PG.imp (J6 ho hi GB ha) λv σ H Q h9=>by
 obtain⟨ρ,S,τ,a,R,r,va,h⟩:=h9;refine⟨ρ,S,τ,R,r,gv (gz h) .refl λo S1 h1 ρ1 H1 x e1 t m=>⟨ρ1,S1,τ,t,r.ext e1,gv (gz h1) e1 λi S2 h2 d H2 y e2 R2 g=>?_⟩⟩;refine⟨d,S2,o,i,a,R2,m.ext e2,g,va.ext<|e1.trans e2,gv (gz h2) (e1.trans e2) λ_ S3 j ρ3 z f k=>?_⟩;exact j ρ3 z σ ((e1.trans e2).trans f) k<|r.ext<|(e1.trans e2).trans f
abbrev kg:Sm:=λτ S=>.nx τ S
abbrev gP (c d:Sm):Sm:=λτ S=>match c τ S with
 | .nx f g=>d f g
 | r=>r
def iC:Ge X [] kg:=ve.imp Gf λD σ H ⟨ρ,S,τ,R,r,h⟩=>h ρ H σ .refl R r
def GZ{H:Hp}(h:tS X (gP c d) D σ H):LR (tS X c) (tS X d) D σ H:=by
 kln_w;refine⟨ρ,S,τ,R,r,?_⟩;unfold gP at h
 cases hc:c τ S with
 | nx τ1 S1=>
  rw[hc]at h;exact λρ1 H1 f e1 g r1=>⟨ρ1,S1,τ1,g,r1,uy.ext h e1⟩
 | rt a S1=>rw[hc]at h;exact h
 | bk τ1 S1=>rw[hc]at h;exact h
 | ct τ1 S1=>rw[hc]at h;exact h
 | ex x S1=>rw[hc]at h;exact h
 | no=>rw[hc]at h;exact h
def gq(h1:AS X st c)(h2:Ge X rest d):Ge X (st::rest) (gP c d):=ve.imp (CD h1 h2) λD σ H h=>GZ h
def gB(h1:AS X st c):Ge X [st] c:=F0 h1
abbrev Ju:Sm:=λτ S=>.bk τ S
abbrev KP:Sm:=λτ S=>.ct τ S
abbrev mH (e:Ex):Sm:=λτ S=>.of (e τ S) λ_ S1=>.nx τ S1
def jH{f:Ex}(he:AE X e f)(hs:swapsWith e none pos.line X.env=pure false:=by rfl):AS X (.Expr e pos) (mH f):=PS.imp (GL he hs) λD σ H ⟨ρ,S,τ,R,r,h⟩=>
 ⟨ρ,S,τ,R,r,gv (of_post h) .refl λa S1 h1 ρ1 H1 x e1 d g=>h1 ρ1 H1 σ e1 d<|r.ext e1⟩
abbrev iS (e:Ex):Sm:=λτ S=>.of (e τ S) λa S1=>.rt a S1
def gR{f:Ex}(he:AE X e f):AS X (.Return (some e) pos) (iS f):=PS.imp (IU he) λD σ H ⟨ρ,S,τ,R,r,h⟩=>⟨ρ,S,τ,R,r,gv (of_post h) .refl λa S1 h1=>h1⟩
abbrev K3:Sm:=λτ S=>.rt .non S
abbrev sS (t:Te)(c d:Sm):Sm:=λτ S=>.of (t τ S) λb S1=>match b with|true=>c τ S1|false=>d τ S1
def jD{t:Te}(ht:AT X e t)(ha:Ge X ca c)(hb:Ge X cb d):AS X (.If e ca cb pos) (sS t c d):=PS.imp (Lm ht ha hb) λD σ H h9=>by
 z_go;refine⟨ρ,S,τ,R,r,gv (of_post h) .refl λb S1 h1 ρ1 H1 e1 f=>?_⟩
 cases b with
 | true=>rw[aX rfl];exact⟨ρ1,S1,τ,f,r.ext e1,uy.ext h1 e1⟩
 | false=>rw[aZ bh];exact⟨ρ1,S1,τ,f,r.ext e1,uy.ext h1 e1⟩
abbrev g_ (e:Ex)(g:Tg):Sm:=λτ S=>.of (e τ S) λa S1=>.of (g a τ S1) λd S2=>.nx d S2
def GA{f:Ex}{g:Tg}{H:Hp}(h:tS X (g_ f g) D σ H):Cy (tE X f) (tG X g) D σ H:=by
 kln_w;exact⟨ρ,S,τ,R,r,gv (of_post h) .refl λa S1 h1 ρ1 H1 x e1 k j=>⟨ρ1,S1,τ,a,k,r.ext e1,j,gv (of_post h1) e1 λd S2 h2=>AF.ext h2 e1⟩⟩
def rS{tg:aC}{f:Ex}{g:Tg}(he:AE X e f)(hg:AG X tg g)(hs:swapsWithSole [tg] e pos.line X.env=pure false:=by rfl)(hw:swappedStores [tg] e X.env=pure none:=by rfl)
  (h1:(assignEach [tg] X.env).map (·.2)=[assign tg X.env]:=by rfl):AS X (.Assign [tg] e pos) (g_ f g):=PS.imp (Il he hg hs hw h1) λD σ H h=>GA h
def gO{i:Nat}{x:Str}{f:Ex}(hN:X.N.Nodup)(he:AE X e f)(hi:X.N[i]?=some x:=by rfl)(hx:Loc X.env.scope x:=by first|exact Or.inl rfl|exact Or.inr rfl)(hs:swapsWith e (some<|.Name x pos') pos.line X.env=pure false:=by rfl)(hf:X.fn x=true\/X.env.scope.names.lookup x=some .local:=by first|exact .inl rfl|exact .inr rfl|assumption) :
  AS X (.Assign [.Name x pos'] e pos) (g_ f<|gW i):=PS.imp (JE hN hi hx he hs hf) λD σ H ⟨ρ,S,τ,R,r,h⟩=>
 ⟨ρ,S,τ,R,r,gv (of_post h) .refl λa S1 h1 ρ1 H1 x e1 g d=>h1 ρ1 H1 _ e1 g<|(r.ext e1).set d⟩
abbrev Mr (i j:Nat)(c:nu):Sm:=λτ S=>.of (c τ S) λd S1=>match d with
 | [a,b]=>.nx ((τ.set i a).set j b) S1
 | _=>.no
abbrev ip (X:Cx)(f:A->A->gu->R A):LG:=λx y H Q=>∃ρ S a b,Rel X.K ρ H S/\AV X.K ρ H a x/\AV X.K ρ H b y/\(f a b S).post (rL X ρ H Q) (XE X ρ H)
abbrev Mv (a b:A)(S:gu):R A:=match a,b with
 | .int i,.int j=>.ok (.int<|i+j) S
 | _,_=>.no
def GU:L5 X .Sub (ip X aSub):=λpins s σ H x y v u Q I r1 r2 h9=>by
 x_go
 cases va with
 | int i=>
  cases vb with
  | int j=>exact JB pins s σ H _ _ v u Q I r1 r2 ⟨i,j,rfl,rfl,h _ _ _ .refl R<|.int _⟩
  | _=>exact h.elim
 | _=>exact h.elim
abbrev Ey (i:Nat)(f:A->A->gu->R A)(e:Ex):Sm:=λτ S=>if (τ.getD i .unb).jL then .no else .of (e τ S) λb S1=>.of (f (τ.getD i .unb) b S1) λc S2=>.nx (τ.set i c) S2
def JU{i:Nat}{x:Str}{c:Ex}{f:A->A->gu->R A}(hN:X.N.Nodup)(he:AE X e c)(ho:L5 X op<|ip X f)(hi:X.N[i]?=some x:=by rfl)(hx:Loc X.env.scope x:=by first|exact Or.inl rfl|exact Or.inr rfl)(hf:X.fn x=true\/X.env.scope.names.lookup x=some .local:=by first|exact .inl rfl|exact .inr rfl|assumption) :
  AS X (.AugAssign (.Name x pos') op e pos) (Ey i f c):=PS.imp (Iw hN hi hx he ho hf) λD σ H h9=>by
 z_go;have g:∀x,τ[i]?=some x->x.jL=false->(RS.of (c τ S) λb S1=>.of (f x b S1) λc S2=>.nx (τ.set i c) S2).post (AF X ρ H D.nx) (rL X ρ H D.rt) (AF X ρ H D.bk) (AF X ρ H D.ct) (XE X ρ H) ->
   ∃x,σ[i]?=some (some x)/\tE X c σ H λy H1=>ip X f x y H1 λz H2=>D.nx (σ.set i<|some z) H2:=by
  intro x hi hx h
  rcases r.at i x hi with z|⟨v,e,q⟩
  ·subst z;cases hx
  ·refine⟨v,e,ρ,S,τ,R,r,gv (of_post h) .refl λb S1 h1 ρ1 H1 y e1 m k=>⟨ρ1,S1,x,b,m,q.ext e1,k,gv (of_post h1) e1 λw S2 h2 d H2 z e2 R2 j=>?_⟩⟩;exact h2 d H2 _ (e1.trans e2) R2<|(r.ext<|e1.trans e2).set j
 unfold Ey uy at h;rw[aG]at h
 cases hi:τ[i]? with
 | none=>rw[hi]at h;exact h.elim
 | some x=>
  rw[hi]at h
  cases hx:x.jL with
  | true=>rw[show(some x).getD .unb=x from rfl,hx]at h;exact h.elim
  | false=>rw[show(some x).getD .unb=x from rfl,hx]at h;exact g x hi hx h
abbrev FO (a b:A)(S:gu):R A:=match a,b with
 | .ref n,.int i=>opt (gm S n) λxs=>gd (0<=i) (opt (xs[i.toNat]?) λx=>.ok x S)
 | _,_=>.no
abbrev KA (co ci ce:Ex)(f:A->A->gu->R A):Sm:=λτ S=>.of (co τ S) λo S1=>.of (ci τ S1) λi S2=>.of (FO o i S2) λx S3=>.of (ce τ S3) λy S4=>.of (f x y S4) λz S5=>.of (wJ o i z S5) λ_ d=>.nx τ d
abbrev jF (t:Te)(c:Sm):Nat->Sm
 | 0=>λ_ _=>.no
 | n+1=>λτ S=>.of (t τ S) λb S1=>match b with
  | false=>.nx τ S1
  | true=>match c τ S1 with
   | .nx d f=>jF t c n d f
   | .ct d f=>jF t c n d f
   | .bk d f=>.nx d f
   | r=>r
def Dz(n:Nat){t:Te}(hp:PassesOwn (model X.prog X.w) X.A X.env X.xe)(ht:AT X e t)(hb:Ge X body c):AS X (.While e body [] pos) (jF t c n):=PS.imp (Ca hp ht hb) λD σ H h9=>by
 z_go;refine⟨λm g H'=>∃ρ' f d,Ext ρ ρ' H H'/\Rel X.K ρ' H' f/\SR X.K ρ' H' d g/\uy X ρ' H' D (jF t c m d f),⟨n,ρ,S,τ,.refl,R,r,h⟩,?_⟩;rintro m F H1 ⟨ρ1,S1,τ1,e1,G,r1,h1⟩
 cases m with
 | zero=>exact h1.elim
 | succ m=>
  refine⟨ρ1,S1,τ1,G,r1,gv (of_post h1) .refl λb S2 h2 k H2 e2 R2=>?_⟩
  cases b with
  | false=>rw[aZ bh];exact h2 k H2 F e2 R2 (r1.ext e2)
  | true=>
   rw[aX rfl];refine⟨λg H'=>∃ρ' f d,Ext ρ ρ' H H'/\Rel X.K ρ' H' f/\SR X.K ρ' H' d g/\uy X ρ' H' D (jF t c m d f),λg H' z=>⟨m,bw _,z⟩,k,S2,τ1,R2,r1.ext e2,?_⟩;have h2:uy X ρ1 H1 D (match c τ1 S2 with
    | .nx d f=>jF t c m d f
    | .ct d f=>jF t c m d f
    | .bk d f=>.nx d f
    | r=>r):=h2
   cases hc:c τ1 S2 with
   | nx τ3 S3=>rw[hc]at h2;exact λρ3 J B j C r3=>⟨ρ3,S3,τ3,(e1.trans e2).trans j,C,r3,uy.ext h2<|e2.trans j⟩
   | ct τ3 S3=>rw[hc]at h2;exact λρ3 J B j C r3=>⟨ρ3,S3,τ3,(e1.trans e2).trans j,C,r3,uy.ext h2<|e2.trans j⟩
   | bk τ3 S3=>rw[hc]at h2;exact AF.ext h2 e2
   | rt a S3=>rw[hc]at h2;exact rL.ext h2 e2
   | ex x S3=>rw[hc]at h2;exact XE.ext h2 e2
   | no=>rw[hc]at h2;exact h2
end
structure Src where
 k:Nat
 get:Nat->gu->Option A
 fin:gu->Bool
structure JR (K:aq)(s:Src)(J:It)(ρ0:ba)(H0:Hp):Prop where
 go:∀(i:Nat) (S:gu) (H:Hp) (ρ:ba) (x:A),Ext0 ρ0 ρ H0 H->Rel K ρ H S->s.get i S=some x->J.go i H/\∀v H',J.yld i H v H'->Ext ρ ρ H H'/\Rel K ρ H' S/\AV K ρ H' x v
 stop:∀(S:gu) (H:Hp) (ρ:ba),Ext0 ρ0 ρ H0 H->Rel K ρ H S->s.fin S=true->J.stop s.k H
meta abbrev Ic:=ae->gu->R Src
abbrev tI (X:Cx)(c:Ic):TI:=λσ H Q=>∃ρ S τ,Rel X.K ρ H S/\SR X.K ρ H τ σ/\(c τ S).post (λs d=>∀ρ' H' J,Ext ρ ρ' H H'->Rel X.K ρ' H' d->JR X.K s J ρ' H'->Q J H') (XE X ρ H)
abbrev AI (X:Cx)(tg iter:aC)(c:Ic):Prop:=PI X tg iter<|tI X c
abbrev qK (xs:ae):Src:=⟨xs.length,λi _=>xs[i]?,λ_=>true⟩
abbrev g8 (n k:Nat):Src:=⟨k,λi S=>(gm S n).bind (·[i]?),λS=>match gm S n with
 | some ys=>decide (ys.length<=k)
 | none=>false⟩
abbrev lW (lo hi:Int):Src:=⟨(hi-lo).toNat,λi _=>if i<(hi-lo).toNat then some (.int<|lo+i)else none,λ_=>true⟩
abbrev jq (c:Ex):Ic:=λτ S=>(c τ S).bind λa S1=>match a with
 | .tup xs=>.ok (qK xs) S1
 | .frz xs=>.ok (qK xs) S1
 | .ref n=>opt (gm S1 n) λxs=>.ok (g8 n xs.length) S1
 | .str x=>gd (x.cps.all (· < 128)=true) (.ok (qK<|x.cps.toList.map λc=>.str ⟨#[c]⟩) S1)
 | _=>.no
section
variable {X:Cx}{pos:Pos}{tg e a b:aC}
def Ig{K:aq}{H0:Hp}{p:aj}(h:kO K H0 p vs)(r:AVs K ρ0 H0 xs vs):JR K (qK xs) (MA K p) ρ0 H0 where
 go:=λi S H ρ x e R g=>by
  obtain⟨v,ev,d⟩:=(AVs.iY e r).get g;have hs:=e.NJ h;refine⟨⟨vs,v,hs,ev⟩,λw H' ⟨e1,y⟩=>?_⟩;subst e1;have:=y vs hs;rw[ev]at this
  cases this
  exact⟨.refl,R,d⟩
 stop:=λS H ρ e R _=>⟨vs,e.NJ h,by rw[<- r.length];exact aN _⟩
def Jj{K:aq}{H0:Hp}{p:aj}(h:Fz K H0 p vs)(r:AVs K ρ0 H0 xs vs):JR K (qK xs) (L4 K p) ρ0 H0 where
 go:=λi S H ρ x e R g=>by
  obtain⟨v,ev,d⟩:=(AVs.iY e r).get g;have hs:=(e.fz h).Hg;refine⟨⟨vs,v,hs,ev⟩,λw H' ⟨e1,y⟩=>?_⟩;subst e1;have:=y vs hs;rw[ev]at this
  cases this
  exact⟨.refl,R,d⟩
 stop:=λS H ρ e R _=>⟨vs,(e.fz h).Hg,by rw[<- r.length];exact aN _⟩
def Ie{K:aq}{ρ0:ba}{H0:Hp}{p:aj}{n k:Nat}(h:ρ0[n]?=some p):JR K (g8 n k) (L4 K p) ρ0 H0 where
 go:=λi S H ρ x e R g=>by
  obtain⟨ys,hn,hx⟩:=bN.mp<|show(gm S n).bind (·[i]?)=some x from g;obtain⟨d,h1,r⟩:=R.lst (e.get h)<|gF hn;obtain⟨v,ev,f⟩:=r.get hx;refine⟨⟨d,v,jh.of h1,ev⟩,λw H' ⟨e1,y⟩=>?_⟩;subst e1;have:=y d<|jh.of h1;rw[ev]at this
  cases this
  exact⟨.refl,R,f⟩
 stop:=λS H ρ e R g=>by
  have g:(match gm S n with
   | some ys=>decide (ys.length<=k)
   | none=>false)=true:=g
  cases hn:gm S n with
  | none=>rw[hn]at g;cases g
  | some ys=>
   rw[hn]at g;obtain⟨d,h1,r⟩:=R.lst (e.get h)<|gF hn;exact⟨d,jh.of h1,by rw[<- r.length];exact fQ g⟩
def E6{K:aq}{H0:Hp}{lo hi:Int}:JR K (lW lo hi) (Lg lo (hi-lo).toNat) ρ0 H0 where
 go:=λi S H ρ x e R g=>by
  have g:(if i<(hi-lo).toNat then some (A.int<|lo+i)else none)=some x:=g;by_cases d:i<(hi-lo).toNat
  ·rw[aX d]at g
   cases g
   refine⟨d,λw H' ⟨e1,y⟩=>?_⟩;subst e1 y;exact⟨.refl,R,.int _⟩
  ·rw[aZ d]at g;cases g
 stop:=λS H ρ e R _=>aN _
def Ij{K:aq}{H0:Hp}{x:Str}:JR K (qK<|x.cps.toList.map λc=>A.str ⟨#[c]⟩) (Na x) ρ0 H0 where
 go:=λi S H ρ y e R g=>by
  have g:(x.cps.toList.map λc=>A.str ⟨#[c]⟩)[i]?=some y:=g;rw[aS]at g;obtain⟨c,hc,rfl⟩:=bg.mp g;rw[Array.getElem?_toList]at hc;refine⟨(Array.getElem?_eq_some_iff.mp hc).1,λw H' ⟨e1,j,d,f⟩=>?_⟩;rw[hc]at d
  cases d
  subst e1 f;exact⟨.refl,R,.str _⟩
 stop:=λS H ρ e R _=>by
  show(x.cps.toList.map λc=>A.str ⟨#[c]⟩).length=x.cps.size;rw[aH,dc]
def jO{c:Ex}(he:AE X e c):AI X tg e (jq c):=λpins s σ H Q I h9=>by
 z_go;have hb:=gz h
 cases hc:c τ S with
 | no=>rw[hc]at hb;exact hb.elim
 | ex x S1=>
  rw[hc]at hb;exact Cw he pins s σ H Q I ⟨ρ,S,τ,R,r,by rw[hc];exact hb⟩
 | ok a S1=>
  rw[hc]at hb
  cases a with
  | tup xs=>
   refine Cw he pins s σ H Q I ⟨ρ,S,τ,R,r,?_⟩;rw[hc];intro ρ1 H1 x e1 d f
   cases f with
   | tup h1 r1=>exact⟨_,rfl,⟨_,(kO.of h1)⟩,hb ρ1 H1 _ e1 d<|Ig (kO.of h1) r1⟩
  | frz xs=>
   refine zp he pins s σ H Q I ⟨ρ,S,τ,R,r,?_⟩;rw[hc];intro ρ1 H1 x e1 d f
   cases f with
   | frz h1 r1=>exact⟨_,rfl,⟨_,h1.Hg⟩,hb ρ1 H1 _ e1 d<|Jj h1 r1⟩
  | ref n=>
   obtain⟨xs,hn,hb⟩:=gE hb;refine zp he pins s σ H Q I ⟨ρ,S,τ,R,r,?_⟩;rw[hc];intro ρ1 H1 x e1 d f
   cases f with
   | ref hp=>
    obtain⟨j,h1,r1⟩:=d.lst hp<|gF hn;exact⟨_,rfl,⟨_,jh.of h1⟩,hb ρ1 H1 _ e1 d<|Ie hp⟩
  | str x=>
   obtain⟨g,hb⟩:=gS hb;refine Jy he pins s σ H Q I ⟨ρ,S,τ,R,r,?_⟩;rw[hc];intro ρ1 H1 v e1 d f
   cases f with
   | str=>exact⟨x,rfl,g,hb ρ1 H1 _ e1 d Ij⟩
  | _=>exact hb.elim
abbrev bnd (i:Int):Prop:=-(2 ^ 62)<=i/\i<2 ^ 62
instance (i:Int):Decidable (bnd i):=by unfold bnd;infer_instance
abbrev j_ (c:Ex):Ic:=λτ S=>(c τ S).bind λa S1=>match a with
 | .int j=>gd (bnd j) (.ok (lW 0 j) S1)
 | _=>.no
abbrev qP (c d:Ex):Ic:=λτ S=>(c τ S).bind λa S1=>(d τ S1).bind λb S2=>match a,b with
 | .int i,.int j=>gd (bnd i/\bnd j) (.ok (lW i j) S2)
 | _,_=>.no
def ja{p:Pos}{c:Ex}(hm:X.mg "range" = none)(ha:AE X a c)(hg:Gl X "range" := by rfl)(hs:starEach [a] X.env=[(false,eval a X.env)]:=by rfl):AI X tg (.Call (.Name "range" p) [a] [] pos) (j_ c):=λpins s σ H Q I h9=>by
 z_go;refine By hg hm (jT ha qC hs) hs pins s σ H Q I ⟨ρ,S,τ,R,r,gv (gz h) .refl λx S1 h1 ρ1 H1 v e1 f d=>?_⟩
 cases d with
 | int j=>
  obtain⟨hb,h1⟩:=gS h1;exact⟨_,rfl,hb.1,hb.2,by have:=h1 ρ1 H1 _ e1 f E6;rwa [Int.sub_zero]at this⟩
 | _=>exact h1.elim
def uc{p:Pos}{c d:Ex}(hm:X.mg "range" = none)(ha:AE X a c)(hb:AE X b d)(hg:Gl X "range" := by rfl)(hs:starEach [a,b] X.env=[(false,eval a X.env),(false,eval b X.env)]:=by rfl)(hs2:starEach [b] X.env=[(false,eval b X.env)]:=by rfl):AI X tg (.Call (.Name "range" p) [a,b] [] pos) (qP c d):=λpins s σ H Q I h9=>by
 z_go;refine BV hg hm (jT ha (jT hb qC hs2)<|by rw[hs,hs2]) hs hs2 pins s σ H Q I ⟨ρ,S,τ,R,r,gv (gz h) .refl λx S1 h1 ρ1 H1 v e1 m k=>⟨ρ1,S1,τ,m,r.ext e1,gv (gz h1) e1 λy S2 h2 f H2 w e2 R2 g=>?_⟩⟩
 cases k with
 | int i=>
  cases g with
  | int j=>
   obtain⟨hb,h2⟩:=gS h2;exact⟨_,_,rfl,⟨hb.1.1,hb.1.2,hb.2.1,hb.2.2⟩,h2 f H2 _ (e1.trans e2) R2 E6⟩
  | _=>exact h2.elim
 | _=>exact h2.elim
abbrev kZ (s:Src)(g:Tg)(c:Sm):Nat->Nat->Sm
 | 0,_=>λτ S=>if s.fin S then .nx τ S else .no
 | k+1,i=>λτ S=>match s.get i S with
  | none=>.no
  | some x=>.of (g x τ S) λτ1 S1=>match c τ1 S1 with
   | .nx d f=>kZ s g c k (i+1) d f
   | .ct d f=>kZ s g c k (i+1) d f
   | .bk d f=>.nx d f
   | r=>r
abbrev lU (src:Ic)(g:Tg)(c:Sm):Sm:=λτ S=>.of (src τ S) λs S1=>kZ s g c s.k 0 τ S1
def j7{iter:aC}{src:Ic}{g:Tg}{c:Sm}(hp:PassesOwn (model X.prog X.w) X.A X.env X.xe)(hc:X.calm=true)(hi:AI X tg iter src)(hg:AG X tg g)(hb:Ge X body c)
  (hs:∀x,foldedSetIterable iter X.env x=pure x:=by intro _;rfl):AS X (.For tg iter body [] pos) (lU src g c):=PS.imp (Jq hp hc hi hg hb hs) λD σ H h9=>by
 z_go;refine⟨ρ,S,τ,R,r,gv (of_post h) .refl λs S1 h1 ρ1 H1 J e1 R1 U=>?_⟩;refine⟨λi m G H'=>m+i=s.k/\∃ρ' C d,Ext ρ1 ρ' H1 H'/\Rel X.K ρ' H' C/\SR X.K ρ' H' d G/\uy X ρ' H' D (kZ s g c m i d C),⟨s.k,rfl,ρ1,S1,τ,.refl,R1,r.ext e1,uy.ext h1 e1⟩,?_⟩;rintro i m O H2 ⟨hm,j,S2,L,e2,R2,r2,h2⟩
 cases m with
 | zero=>
  left;have h2:uy X j H2 D (if s.fin S2 then .nx L S2 else .no):=h2
  cases hf:s.fin S2 with
  | false=>rw[hf]at h2;exact h2.elim
  | true=>
   rw[hf]at h2;refine⟨by rw[show i=s.k by lia];exact U.stop S2 H2 j e2.toExt0 R2 hf,h2 j H2 O .refl R2 r2⟩
 | succ m=>
  right;have h2:uy X j H2 D (match s.get i S2 with
   | none=>.no
   | some x=>.of (g x L S2) λτ1 S1=>match c τ1 S1 with
    | .nx d C=>kZ s g c m (i+1) d C
    | .ct d C=>kZ s g c m (i+1) d C
    | .bk d C=>.nx d C
    | r=>r):=h2
  cases hx:s.get i S2 with
  | none=>rw[hx]at h2;exact h2.elim
  | some x=>
   rw[hx]at h2;obtain⟨P,hy⟩:=U.go i S2 H2 j x e2.toExt0 R2 hx;refine⟨P,λG H'=>m+(i+1)=s.k/\∃ρ' C d,Ext ρ1 ρ' H1 H'/\Rel X.K ρ' H' C/\SR X.K ρ' H' d G/\uy X ρ' H' D (kZ s g c m (i+1) d C),λG H' z=>⟨m,bw _,z⟩,λv H3 y=>?_⟩;obtain⟨N,W,V⟩:=hy v H3 y;refine⟨j,S2,L,x,W,r2.ext N,V,gv (of_post h2) N λτ4 S4 B M H4 Z e4 R4 r4=>⟨M,S4,τ4,R4,r4,?_⟩⟩;have f:=N.trans e4
   cases t:c τ4 S4 with
   | nx F S5=>rw[t]at B;exact λρ5 H5 σ5 e5 R5 r5=>⟨(),ρ5,S5,F,(e2.trans f).trans e5,R5,r5,uy.ext B<|f.trans e5⟩
   | ct F S5=>rw[t]at B;exact λρ5 H5 σ5 e5 R5 r5=>⟨(),ρ5,S5,F,(e2.trans f).trans e5,R5,r5,uy.ext B<|f.trans e5⟩
   | bk F S5=>rw[t]at B;exact AF.ext B f
   | rt Y S5=>rw[t]at B;exact rL.ext B f
   | ex Y S5=>rw[t]at B;exact XE.ext B f
   | no=>rw[t]at B;exact B
end
section
variable {X:Cx}{tg a b c0:aC}{pos:Pos}
abbrev uA (lo hi:Int):Src:=⟨(lo-hi).toNat,λi _=>if i<(lo-hi).toNat then some (.int<|lo-i)else none,λ_=>true⟩
def Lp{K:aq}{H0:Hp}{lo hi:Int}:JR K (uA lo hi) (L3 lo (lo-hi).toNat) ρ0 H0 where
 go:=λi S H ρ x e R g=>by
  have g:(if i<(lo-hi).toNat then some (A.int<|lo-i)else none)=some x:=g;by_cases d:i<(lo-hi).toNat
  ·rw[aX d]at g
   cases g
   refine⟨d,λw H' ⟨e1,y⟩=>?_⟩;subst e1 y;exact⟨.refl,R,.int _⟩
  ·rw[aZ d]at g;cases g
 stop:=λS H ρ e R _=>aN _
abbrev MC (a b k:A)(S3:gu):R Src:=match a,b,k with
 | .int i,.int j,.int m=>gd (m=-1/\bnd i/\bnd j) (.ok (uA i j) S3)
 | _,_,_=>.no
def E3{a b k:A}{P:Src->gu->Prop}{E:Str->gu->Prop}(h:(MC a b k S3).post P E):∃i j,a=.int i/\b=.int j/\k=.int (-1)/\bnd i/\bnd j/\P (uA i j) S3:=by
 unfold MC at h;split at h
 ·obtain⟨⟨z,h1,h2⟩,h⟩:=gS h;exact⟨_,_,rfl,rfl,by rw[z],h1,h2,h⟩
 ·exact h.elim
abbrev vY (c d:Ex)(e:Ex):Ic:=λτ S=>(c τ S).bind λa S1=>(d τ S1).bind λb S2=>(e τ S2).bind λk S3=>MC a b k S3
def wF{c d e:Ex}{i j:Int}(h:c τ S=.ok (.int i) S1)(h':d τ S1=.ok (.int j) S2)(h'':e τ S2=.ok (.int<|-1) S3)(hb:bnd i)(hb':bnd j):vY c d e τ S=.ok (uA i j) S3:=by
 unfold vY;rw[h];show(d τ S1).bind _=_;rw[h'];show(e τ S2).bind _=_;rw[h''];exact aX ⟨rfl,hb,hb'⟩
def tK{p:Pos}{c d e:Ex}(hm:X.mg "range" = none)(ha:AE X a c)(hb:AE X b d)(hc:AE X c0 e)(hg:Gl X "range" := by rfl)(hs:starEach [a,b,c0] X.env=[(false,eval a X.env),(false,eval b X.env),(false,eval c0 X.env)]:=by rfl)(hs2:starEach [b,c0] X.env=[(false,eval b X.env),(false,eval c0 X.env)]:=by rfl)(hs3:starEach [c0] X.env=[(false,eval c0 X.env)]:=by rfl) :
  AI X tg (.Call (.Name "range" p) [a,b,c0] [] pos) (vY c d e):=λpins s σ H Q I h9=>by
 z_go;refine FY hg hm (jT ha (jT hb (jT hc qC hs3)<|by rw[hs2,hs3])<|by rw[hs,hs2]) hs hs2 pins s σ H Q I ⟨ρ,S,τ,R,r,gv (gz h) .refl λx S1 h1 ρ1 H1 v e1 J G=>⟨ρ1,S1,τ,J,r.ext e1,gv (gz h1) e1 λy S2 h2 k H2 w e2 R2 t=>⟨k,S2,τ,R2,(r.ext e1).ext e2,gv (gz h2) (e1.trans e2) λz S3 B ρ3 L u m F C=>?_⟩⟩⟩;obtain⟨i,j,hx,hy,K,g,f,M⟩:=E3 B;subst hx hy K
 cases G
 cases t
 cases C
 exact⟨_,_,rfl,⟨g.1,g.2,f.1,f.2⟩,M ρ3 L _ ((e1.trans e2).trans m) F Lp⟩
end
abbrev R.h_ {α β:Type}(r:R α)(f:α->gu->R β):R β:=match r with
 | .ok a S=>f a S
 | _=>.no
def gU{α β:Type}{r:R α}{f:α->gu->R β}{b:β}(h:r.h_ f=.ok b S2):∃a S,r=.ok a S/\f a S=.ok b S2:=by
 cases r with
 | ok a S=>exact⟨a,S,rfl,h⟩
 | ex _ _=>cases h
 | no=>cases h
def oK{α β:Type}{r:R α}{f:α->gu->R β}{P:β->gu->Prop}{E:Str->gu->Prop}(h:(r.h_ f).post P E):∃a S,r=.ok a S/\(f a S).post P E:=by
 cases r with
 | ok a S=>exact⟨a,S,rfl,h⟩
 | ex _ _=>exact h.elim
 | no=>exact h.elim
def qp{α β:Type}{o:Option β}{f:β->R α}{a:α}(h:opt o f=.ok a S):∃b,o=some b/\f b=.ok a S:=by
 cases o with
 | none=>cases h
 | some b=>exact⟨b,rfl,h⟩
abbrev iU (s:Src)(g:Tg)(t:Te)(e:Ex):Nat->Nat->ae->gu->R (ae)
 | 0,_=>λ_ S=>if s.fin S then .ok [] S else .no
 | k+1,i=>λτ S=>opt (s.get i S) λx=>(g x τ S).h_ λτ1 S1=>(t τ1 S1).h_ λb S2=>match b with
  | true=>(e τ1 S2).h_ λy S3=>(iU s g t e k (i+1) τ1 S3).h_ λys S4=>.ok (y::ys) S4
  | false=>iU s g t e k (i+1) τ1 S2
abbrev jJ (cap:List<|bj)(τ:ae):ae:=cap.map λo=>match o with
 | some j=>τ.getD j .unb
 | none=>.unb
abbrev iI (cap:List<|bj)(src:Ic)(g:Tg)(t:Te)(e:Ex):Ex:=λτ S=>(src τ S).bind λs S1=>(iU s g t e s.k 0 (jJ cap τ) S1).h_ λys S2=>newL ys S2
abbrev iL:Te:=λ_ S=>.ok true S
def w_{s:Src}{g:Tg}{t:Te}{e:Ex}{k:Nat}{T:Prop}(h:iU s g t e (k+1) i τ S=.ok zs S')
  (q:∀x τ1 S1 b S2,s.get i S=some x->g x τ S=.ok τ1 S1->t τ1 S1=.ok b S2->(b=true->∃y S3 ws,e τ1 S2=.ok y S3/\iU s g t e k (i+1) τ1 S3=.ok ws S'/\zs=y::ws)->(b=false->iU s g t e k (i+1) τ1 S2=.ok zs S')->T):T:=by
 obtain⟨x,hx,h⟩:=qp h;obtain⟨τ1,S1,h1,h⟩:=gU h;obtain⟨b,S2,h2,h⟩:=gU h;kl_no
 ·subst hb;obtain⟨y,S3,f,h⟩:=gU h;obtain⟨ws,S4,d,h⟩:=gU h
  cases h
  exact⟨y,S3,ws,f,d,rfl⟩
 ·subst hb;exact h
structure Out (ρ1:ba)(H1:Hp)(D:aj)(accV:List V)(ρ:ba)(H:Hp):Prop where
 e0:Ext0 ρ1 ρ H1 H
 fr:∀a u,a≠D->H1 a=some u->a∉ρ1->H a=some u
 nw:∀a∈ρ,a∈ρ1\/H1 a=none
 nD:D∉ρ
 hD:H D=some (.lst accV)
def Out.stay{H1 H3 H7:Hp}(o:Out ρ1 H1 D accV ρ3 H3)(hD1:H1 D=none)(e7:Ext ρ3 ρ7 H3 H7):Out ρ1 H1 D accV ρ7 H7:=by
 refine⟨⟨o.e0.pre.trans e7.pre,λa u i h=>e7.im a u i<|o.e0.im a u i h⟩,λa u na f g=>e7.fr a u (o.fr a u na f g) λz=>(o.nw a z).elim g λz=>by(rw[z]at f;cases f),λa k=>?_,λz=>(e7.nw D z).elim o.nD λz=>by(rw[o.hD]at z;cases z),e7.fr D _ o.hD o.nD⟩;by_cases d:a∈ρ1
 ·exact .inl d
 ·right
  cases q:H1 a with
  | none=>rfl
  | some u=>
   have j:a≠D:=gH q hD1
   rcases e7.nw a k with z|z
   ·exact((o.nw a z).elim d λz=>by(rw[z]at q;cases q)).elim
   ·rw[o.fr a u j q d]at z;cases z
def Out.put{H1 H:Hp}(o:Out ρ1 H1 D accV ρ H)(ex:Ext0 ρ ρ H<|upd H D<|.lst vs):Out ρ1 H1 D vs ρ (upd H D<|.lst vs):=
 ⟨⟨o.e0.pre,λa u i h=>ex.im a u i<|o.e0.im a u i h⟩,λa u na f d=>by rw[gA na];exact o.fr a u na f d,o.nw,o.nD,iF⟩
def Out.end{H1 H:Hp}{D:aj}(o:Out ρ1 H1 D accV ρ H)(hD:H1 D=none):Ext ρ1 (ρ++[D]) H1 H:=by
 refine⟨⟨o.e0.pre.trans<|d_ _ _,o.e0.im⟩,λa u d na=>o.fr a u (gH d hD) d na,λa f=>?_⟩
 rcases bC.mp f with z|z
 ·exact o.nw a z
 ·have:a=D:=by simpa using z
  rw[this];exact .inr hD
abbrev Cq (K:aq)(ρ1:ba)(H1:Hp)(D:aj)(ys:ae)(k:Nat)(E:ba->Hp->Prop)(P:Nat->Nat->ae->gu->ae->Prop)(i m:Nat)(σ:L2.St)(H:Hp):Prop:=
 m+i=k/\∃ρ S τ acc zs accV,Out ρ1 H1 D accV ρ H/\E ρ H/\Rel K ρ H S/\SR K ρ H τ σ/\AVs K ρ H acc accV/\P m i τ S zs/\acc++zs=ys
section
variable {K:aq}{ρ1 ρ:ba}{H1 H:Hp}{D:aj}{ys acc zs:ae}{accV:List V}{k i m:Nat}{E:ba->Hp->Prop}{P:Nat->Nat->ae->gu->ae->Prop}{σ:L2.St}{S:gu}{τ:ae}
def Cq.el{T:Prop}(h:Cq K ρ1 H1 D ys k E P i m σ H)(q:∀ρ S τ acc zs accV,m+i=k->Out ρ1 H1 D accV ρ H->E ρ H->Rel K ρ H S->SR K ρ H τ σ->AVs K ρ H acc accV->P m i τ S zs->acc++zs=ys->T):T:=by
 obtain⟨hm,ρ,S,τ,acc,zs,accV,h1,h2,j,g,d,h6,f⟩:=h;exact q ρ S τ acc zs accV hm h1 h2 j g d h6 f
def Cq.of(hm:m+i=k)(o:Out ρ1 H1 D accV ρ H)(e:E ρ H)(R:Rel K ρ H S)(r:SR K ρ H τ σ)(v:AVs K ρ H acc accV)(p:P m i τ S zs)(q:acc++zs=ys):Cq K ρ1 H1 D ys k E P i m σ H:=⟨hm,ρ,S,τ,acc,zs,accV,o,e,R,r,v,p,q⟩
end
abbrev Gq (K:aq)(c:Ex):TE:=λσ H Q=>∃ρ S τ a d,Rel K ρ H S/\SR K ρ H τ σ/\c τ S=.ok a d/\∀ρ' H' v,Ext ρ ρ' H H'->Rel K ρ' H' d->AV K ρ' H' a v->Q v H'
abbrev Dj (K:aq)(c:Te):TT:=λσ H Q=>∃ρ S τ a d,Rel K ρ H S/\SR K ρ H τ σ/\c τ S=.ok a d/\∀ρ' H',Ext ρ ρ' H H'->Rel K ρ' H' d->Q a H'
abbrev FE (K:aq)(g:Tg):TG:=λv σ H Q=>∃ρ S τ a d j,Rel K ρ H S/\SR K ρ H τ σ/\AV K ρ H a v/\g a τ S=.ok d j/\∀ρ' H' f,Ext ρ ρ' H H'->Rel K ρ' H' j->SR K ρ' H' d f->Q f H'
section
variable {X:Cx}{pos:Pos}{tg iter elt e:aC}{ifs:List aC}{scope:Scope}{N:ap}{cap:List (bj)}{src:Ic}{g:Tg}{t:Te}{c:Ex}
def AE.e0{K:aq}(hK:X.K=K)(h:AE X e c):PE X e (Gq K c):=PE.imp h λσ H Q ⟨ρ,S,τ,a,g,R,r,hc,q⟩=>⟨ρ,S,τ,by rw[hK];exact R,by rw[hK];exact r,by rw[hc];exact λρ' H' v e d f=>q ρ' H' v e (by rw[<- hK];exact d)<|by rw[<- hK];exact f⟩
def AT.t0{K:aq}(hK:X.K=K)(h:AT X e t):PT X e (Dj K t):=PT.imp h λσ H Q ⟨ρ,S,τ,a,f,R,r,hc,q⟩=>⟨ρ,S,τ,by rw[hK];exact R,by rw[hK];exact r,by rw[hc];exact λρ' H' e d=>q ρ' H' e<|by rw[<- hK];exact d⟩
def AG.g0{K:aq}(hK:X.K=K)(h:AG X e g):PG X e (FE K g):=by
 subst hK;refine PG.imp h λv σ H Q h9=>?_;obtain⟨ρ,S,τ,a,d,f,R,r,va,hc,q⟩:=h9;exact⟨ρ,S,τ,a,R,r,va,by rw[hc];exact q⟩
abbrev Hz (X:Cx)(ifs:List aC)(t:Te):Prop:=yb X ifs<|Dj X.K t
def iX:Hz X [] iL:=λpins s σ H Q I ⟨ρ,S,τ,a,d,R,r,hc,q⟩=>G0 pins s σ H Q I<|by cases hc;exact q ρ H .refl R
def AK(h:AT X e t):Hz X [e] t:=Gg<|h.t0 rfl
def D8{K:aq}{H:Hp}(r:SR K ρ H τ σ)(cap:List<|bj):SR K ρ H (jJ cap τ) (cap.map<|E1 σ):=by
 refine⟨by simp[jJ],λi a h=>?_⟩;unfold jJ at h;rw[aS]at h;obtain⟨o,f,e⟩:=bg.mp h
 cases o with
 | none=>exact .inl e.symm
 | some j=>
  have e:τ.getD j .unb=a:=e
  cases d:τ[j]? with
  | none=>rw[aG,d]at e;exact .inl e.symm
  | some b=>
   rw[aG,d]at e;have e:b=a:=e;subst e
   rcases r.at j b d with z|⟨v,h1,h2⟩
   ·exact .inl z
   ·exact .inr ⟨v,by rw[aS,f];show some ((σ[j]?).getD none)=_;rw[h1];rfl,h2⟩
def Rel.Dw{K:aq}{H:Hp}{p:aj}(R:Rel K ρ H S)(hp:H p=none):p∉ρ:=λhm=>by
 obtain⟨n,hn,e⟩:=dJ.mp hm;have g:n<S.length:=by rw[<- R.len];exact hn
 have:=R.at n p S[n] (by rw[aF hn,e]) (aF g)
 cases d:S[n]with
 | lst xs=>rw[d]at this;obtain⟨f,h,_⟩:=this;rw[hp]at h;cases h
 | dct _|mE _|dcp _=>rw[d]at this;obtain⟨f,h,_⟩:=this;rw[hp]at h;cases h
 | ins _ _=>rw[d]at this;obtain⟨_,_,h⟩:=this;rw[hp]at h;cases h
def xT(σ:L2.St)(H:Hp)(Q:VK)(h:tE X (iI cap src g t c) σ H Q):Lo cap (tI X src) (FE X.K g) (Dj X.K t) (Gq X.K c) σ H Q:=by
 kln_w;refine⟨ρ,S,τ,R,r,gv (gz h) .refl λs S1 h1 ρ1 H1 J e1 R1 Y D hD=>?_⟩;obtain⟨ys,S2,M,h1⟩:=oK h1;obtain⟨G,h1⟩:=gS h1;have h1:rL X ρ H Q (.ref S2.length) (S2++[.lst ys]):=h1;obtain⟨W,RD⟩:=R1.im (u:=.lst []) hD;refine⟨Cq X.K ρ1 H1 D ys s.k (λ_ _=>True) λm i τ S zs=>iU s g t c m i τ S=.ok zs S2,⟨s.k,.of rfl ⟨W.toExt0,λa u na hu _=>by rw[gA na];exact hu,λa ha=>.inl ha,R1.Dw hD,iF⟩ trivial RD (D8 ((r.ext e1).ext W) cap) .nil M rfl⟩,?_⟩;intro i m σ3 V hw;refine hw.el λρ3 S3 τ3 acc zs accV hm B _ N r3 j d f=>?_;clear hw
 cases m with
 | zero=>
  left;have d:(if s.fin S3 then Am.R.ok [] S3 else .no)=.ok zs S2:=d
  cases hf:s.fin S3 with
  | false=>rw[hf]at d;cases d
  | true=>
   rw[hf]at d
   cases d
   rw[bZ]at f;subst f;refine⟨by rw[show i=s.k by lia];exact Y.stop _ V ρ3 B.e0 N hf,?_⟩;obtain⟨RT,gt⟩:=N.take B.hD B.nD j;exact h1 (ρ3++[D]) V _ (e1.trans<|B.end hD) RT<|.ref gt
 | succ m=>
  right;refine w_ d λx τ4 S4 b S5 hx hg4 ht5 hT hF=>?_;have Z:=Y.go i S3 V ρ3 x B.e0 N hx;refine⟨Z.1,λv H4 y=>?_⟩;obtain⟨e4,R4,v4⟩:=Z.2 v H4 y;gp_on;have z:=(e4.trans e5).trans e6
  cases b with
  | false=>
   dsimp only;rw[aZ bh];exact⟨m,bw _,.of () (B.stay hD z) trivial R6 (r5.ext e6) (j.ext z) (hF rfl) f⟩
  | true=>
   dsimp only;rw[aX rfl];obtain⟨y,S6,ws,U,P,F⟩:=hT rfl;refine⟨ρ6,S5,τ4,y,S6,R6,r5.ext e6,U,λρ7 H7 w O R7 v7=>?_⟩;have L:=B.stay hD<|z.trans O;obtain⟨C,R8⟩:=R7.out (ws:=accV++[w]) L.hD L.nD;have l1:=j.length;refine⟨accV,L.hD,?_,m,bw _,.of () (L.put C) trivial R8 ((r5.ext<|e6.trans O).iY C) (AVs.iY C<|(j.ext<|z.trans O).append<|.one v7) P ?_⟩
   ·have:(acc++zs).length<=sizeLine:=by rw[f];exact G
    rw[F,aM,bB]at this
    lia
   ·rw[bK,<- f,F];rfl
def kq(hc:X.calm=true)(Sc:CpScope X scope N cap)(hi:AI X tg iter src)(hg:∀C s₀ H₀ ex,AG (gQ X scope N C s₀ H₀ ex) tg g)(ht:∀C s₀ H₀ ex,Hz (gQ X scope N C s₀ H₀ ex) ifs t)(he:∀C s₀ H₀ ex,AE (gQ X scope N C s₀ H₀ ex) elt c)
  (hs:∀x,foldedSetIterable iter X.env x=pure x:=by intro _;rfl):AE X (.ListComp elt [⟨tg,iter,ifs,0⟩] scope pos) (iI cap src g t c):=
 PE.imp (Lr hc Sc hi (g:=FE X.K g) (tc:=Dj X.K t) (te:=Gq X.K c) (λC s₀ H₀ ex=>(hg C s₀ H₀ ex).g0 rfl) (λC s₀ H₀ ex=>ht C s₀ H₀ ex) (λC s₀ H₀ ex=>(he C s₀ H₀ ex).e0 rfl) hs) xT
def uO{i:Nat}{x:Str}{spos:Pos}(hN:X.N.Nodup)(hc:X.calm=true)(Sc:CpScope X scope N cap)(hi:AI X tg iter src)(hg:∀C s₀ H₀ ex,AG (gQ X scope N C s₀ H₀ ex) tg g)(ht:∀C s₀ H₀ ex,Hz (gQ X scope N C s₀ H₀ ex) ifs t)(he:∀C s₀ H₀ ex,AE (gQ X scope N C s₀ H₀ ex) elt c)
  (hi':X.N[i]?=some x:=by rfl) (hx:Loc X.env.scope x:=by first|exact Or.inl rfl|exact Or.inr rfl)
  (hsw:swapsWith (.ListComp elt [⟨tg,iter,ifs,0⟩] scope pos) (some<|.Name x pos') spos.line X.env=pure true:=by rfl) (hf:X.fn x=true\/X.env.scope.names.lookup x=some .local:=by first|exact .inl rfl|exact .inr rfl|assumption)
  (hs:∀x,foldedSetIterable iter X.env x=pure x:=by intro _;rfl):AS X (.Assign [.Name x pos'] (.ListComp elt [⟨tg,iter,ifs,0⟩] scope pos) spos) (g_ (iI cap src g t c)<|gW i):=
 PS.imp (EF hN hi' hx hc Sc hi (g:=FE X.K g) (tc:=Dj X.K t) (te:=Gq X.K c) (λC s₀ H₀ ex=>(hg C s₀ H₀ ex).g0 rfl) (λC s₀ H₀ ex=>ht C s₀ H₀ ex) (λC s₀ H₀ ex=>(he C s₀ H₀ ex).e0 rfl) hsw hf hs) λD σ H ⟨ρ,S,τ,R,r,h⟩=>
  xT σ H _ ⟨ρ,S,τ,R,r,gv (of_post h) .refl λa S1 h1 ρ1 H1 x e1 f d=>h1 ρ1 H1 _ e1 f<|(r.ext e1).set d⟩
end
abbrev A.lst? (S:gu):A->Option (ae)
 | .ref n=>gm S n
 | _=>none
abbrev BA (f:A->ae->gu->R A)(co:Ex)(d:nu):Ex:=λτ S=>(co τ S).bind λo S1=>opt (o.lst? S1) λ_=>(d τ S1).bind λg S2=>f o g S2
abbrev IF (f:A->ae->gu->R A)(co:Ex):Ex:=λτ S=>(co τ S).bind λo S1=>opt (o.lst? S1) λ_=>f o [] S1
abbrev rM (X:Cx)(f:A->ae->gu->R A):V->List V->Hp->VK->Prop:=λx g H Q=>∃ρ S o d,Rel X.K ρ H S/\AV X.K ρ H o x/\AVs X.K ρ H d g/\(f o d S).post (rL X ρ H Q) (XE X ρ H)
section
variable {X:Cx}{apos cpos:Pos}{o e:aC}{es:List aC}{name:Str}{id:String}{f:A->ae->gu->R A}{co:Ex}{d:nu}
def lst?_ty{K:aq}{H:Hp}{x:A}{v:V}(R:Rel K ρ H S)(h:AV K ρ H x v)(e:x.lst? S=some xs):L7 K "list" v H:=by
 cases h with
 | ref h=>
  obtain⟨d,h1,_⟩:=R.lst h<|gF e;exact .inl ⟨rfl,d,jh.of h1⟩
 | _=>cases e
def nO(slot:Slot "list" name id)(hty:typeOf (.builtin id)=pure (.type "method_descriptor"))(hm:Kr X id<|rM X f)(ho:AE X o co)(ha:AL X (e::es) d)
  (hbase:attributeBase o name X.env (eval o X.env)=eval o X.env:=by rfl)
  (hfew:((backTo cpos<|starEach (e::es) X.env).all (λx=>!x.1) && (backToKw cpos<|keywordEach [] X.env).all (λx=>x.1.isSome)
   && decide ((e::es).length+([]:List Keyword).length+(if ([]:List Keyword).isEmpty then 0 else 1)<30))=true:=by rfl)
  (hline:(apos.endLine == cpos.line)=true:=by rfl) (hs:starEach (e::es) X.env=(false,eval e X.env)::starEach es X.env:=by rfl) (hplain:(backTo cpos<|starEach es X.env).any (·.1)=false:=by rfl) :
  AE X (.Call (.Attribute o name apos) (e::es) [] cpos) (BA f co d):=PE.imp (K5 PySem.F.plainAttrs_list slot hty hm ho ha hbase hfew hline hs hplain) λσ H Q h9=>by
 z_go;refine⟨ρ,S,τ,R,r,gv (gz h) .refl λx S1 h1 ρ1 H1 v e1 k j=>?_⟩;obtain⟨xs,hx,h1⟩:=gE h1;refine⟨lst?_ty k j hx,ρ1,S1,τ,k,r.ext e1,gv (gz h1) e1 λt S2 h2 g H2 B e2 R2 m=>?_⟩;exact⟨g,S2,x,t,R2,j.ext e2,m,gv h2 (e1.trans e2) λ_ _ z=>z.ext<|e1.trans e2⟩
def Ik(slot:Slot "list" name id)(hty:typeOf (.builtin id)=pure (.type "method_descriptor"))(hm:Kr X id<|rM X f)(ho:AE X o co)
  (hbase:attributeBase o name X.env (eval o X.env)=eval o X.env:=by rfl) (hline:(apos.endLine == cpos.line)=true:=by rfl):AE X (.Call (.Attribute o name apos) [] [] cpos) (IF f co):=PE.imp (Iv PySem.F.plainAttrs_list slot hty hm ho hbase hline) λσ H Q h9=>by
 z_go;refine⟨ρ,S,τ,R,r,gv (gz h) .refl λx S1 h1 ρ1 H1 v e1 g d=>?_⟩;obtain⟨xs,hx,h1⟩:=gE h1;exact⟨lst?_ty g d hx,ρ1,S1,x,[],g,d,.nil,gv h1 e1 λ_ _ z=>z.ext e1⟩
abbrev jb (o:A)(as:ae)(S:gu):R A:=match o,as with
 | .ref n,[x]=>opt (gm S n) λxs=>gd (xs.length<sizeLine) (.ok .non<|S.set n<|.lst<|xs++[x])
 | _,_=>.no
def i9:Kr X "list.append" (rM X jb):=λpins s σ H x t v us Q I rx m h9=>by
 obtain⟨ρ,S,o,j,R,k,va,h⟩:=h9
 cases k with
 | @ref p n hp=>
  match j,va,h with
  | [],_,h=>exact h.elim
  | _::_::_,_,h=>exact h.elim
  | [y],va,h=>
   obtain⟨w,rfl,hw⟩:=Jg va;kpc_g;obtain⟨d,h⟩:=gS h;obtain⟨f,h1,r⟩:=R.lst hp<|gF hn;obtain⟨ex,g⟩:=R.put hp (gF hn)<|r.append<|.one hw;exact qH pins s σ H _ _ v us Q I rx m ⟨p,f,w,rfl,rfl,h1,by rw[<- r.length];exact d,h _ _ _ ex g .non⟩
 | _=>exact h.elim
abbrev Ir (o:A)(as:ae)(S:gu):R A:=match o,as with
 | .ref n,[]=>opt (gm S n) λxs=>opt (xs[xs.length-1]?) λx=>.ok x (S.set n<|.lst xs.dropLast)
 | _,_=>.no
def AVs.dropLast{K:aq}{H:Hp}{xs:ae}{vs:List V}(r:AVs K ρ H xs vs):AVs K ρ H xs.dropLast vs.dropLast:=by
 rw[List.dropLast_eq_take,List.dropLast_eq_take,r.length];exact r.take _
def KR:Kr X "list.pop" (rM X Ir):=λpins s σ H x t v us Q I rx m h9=>by
 obtain⟨ρ,S,o,j,R,k,va,h⟩:=h9
 cases k with
 | @ref p n hp=>
  match j,va,h with
  | _::_,_,h=>exact h.elim
  | [],va,h=>
   cases va
   kpc_g;obtain⟨y,hy,h⟩:=gE h;obtain⟨f,h1,r⟩:=R.lst hp<|gF hn;obtain⟨w,hw,d⟩:=r.get hy;obtain⟨ex,g⟩:=R.put hp (gF hn) r.dropLast;exact Jr pins s σ H _ _ v us Q I rx m ⟨p,f,w,rfl,rfl,h1,by rw[<- r.length];exact hw,h _ _ _ ex g<|d.ext ex⟩
 | _=>exact h.elim
end
abbrev jK (N:ap)(m:Sm)(as:ae)(S:gu):R A:=match m (as++List.replicate (N.length-as.length) .unb) S with
 | .rt a d=>.ok a d
 | .nx _ d=>.ok .non d
 | .ex c d=>.ex c d
 | _=>.no
abbrev pq (K:aq)(n:Nat)(F:ae->gu->R A):Sp:=λd H Q _=>d.length=n/\∃ρ S f a g,Rel K ρ H S/\AVs K ρ H f d/\F f S=.ok a g/\∀ρ' H' v,Ext ρ ρ' H H'->Rel K ρ' H' g->AV K ρ' H' a v->Q v H'
def Gd{K:aq}{H:Hp}{as:ae}(r:AVs K ρ H as vs)(N:ap):SR K ρ H (as++List.replicate (N.length-as.length) .unb) (L2.start N vs):=by
 have d:=r.length;refine⟨by unfold L2.start;simp[d],λi a h=>?_⟩;by_cases f:i<as.length
 ·rw[aO f]at h;obtain⟨v,hv,g⟩:=r.get h;exact .inr ⟨v,by unfold L2.start;rw[aO<|by simp;lia,aS,hv];rfl,g⟩
 ·rw[bT (),dh]at h;split at h
  ·exact .inl (aR h).symm
  ·cases h
section
variable {P:ah}{w:af}{K:aq}{mg:Str->be}{base:ak}
def rG{x:Str}{st:aE}{f:aj}{N ps:ap}{k:Nat}{m:Sm}(F:Fun K x qual st f fd)(Sc:FnScope N ps<|gG st)
  (body:∀(cdv:aa) (A:au) (outer:List Env) (s:aA) (H:Hp) (E:XK),Room k (A.deeper<|envOfC qual (gG st) s.heap.objs.size f cdv)->Ge (yE nU P w K mg base N qual (gG st) f cdv A outer s H E).LA (lF st) m) :
  FnOk P w K mg base nU (k+1) f fd ps (pq K ps.length<|jK N m):=by
 refine F.ok Sc (λz H Q E h=>h.1) λcdv B outer s H z Q E C ⟨G,ρ,S,g,a,J,R,va,d,q⟩=>⟨_,body cdv B outer s H E C,ρ,S,_,R,Gd va N,?_⟩;unfold jK at d
 cases hm:m (g++List.replicate (N.length-g.length) .unb) S with
 | rt b S2=>rw[hm]at d;cases d;exact q
 | nx τ S2=>rw[hm]at d;cases d;exact λρ' H' j e t _=>q ρ' H' _ e t .non
 | bk τ S2=>rw[hm]at d;cases d
 | ct τ S2=>rw[hm]at d;cases d
 | ex c S2=>rw[hm]at d;cases d
 | no=>rw[hm]at d;cases d
end
meta abbrev oZ (P:ah)(w:af)(K:aq)(mg:Str->be)(base:ak)(k:Nat)(x:Str)(ps:ap)(F:ae->gu->R A):Prop:=Kn P w K mg base k x ps<|pq K ps.length F
abbrev eFn (F:ae->gu->R A)(d:nu):Ex:=λτ S=>(d τ S).bind λf S1=>match F f S1 with
 | .ok a S2=>.ok a S2
 | _=>.no
section
variable {X:Cx}{pos p:Pos}{e:aC}{es:List aC}{x:Str}{ps:ap}{k:Nat}{F:ae->gu->R A}{d:nu}
def HA(G:oZ X.prog X.w X.K X.mg X.base k x ps F)(hr:Room k X.A)(ha:AL X (e::es) d)(hl:∀τ S as S',d τ S=.ok as S'->as.length=ps.length)(hg:Gl X x:=by rfl)(hdb:(x == ("__debug__" : Str))=false:=by decide)
  (hs:starEach (e::es) X.env=(false,eval e X.env)::starEach es X.env:=by rfl) (hplain:(backTo pos<|starEach es X.env).any (·.1)=false:=by rfl):AE X (.Call (.Name x p) (e::es) [] pos) (eFn F d):=
 PE.imp (Le G hr ha hg hdb hs hplain) λσ H Q h9=>by
  z_go;refine⟨ρ,S,τ,R,r,?_⟩;have hb:=gz h
  cases hd:d τ S with
  | no=>rw[hd]at hb;exact hb
  | ex c S1=>rw[hd]at hb;exact hb
  | ok as S1=>
   rw[hd]at hb;intro ρ1 H1 t e1 m j;rw[bZ];refine⟨by rw[<- j.length];exact hl τ S as S1 hd,ρ1,S1,as,?_⟩;have hb:Am.R.post (match F as S1 with
    | .ok a S2=>.ok a S2
    | _=>.no) (rL X ρ H Q) (XE X ρ H):=hb
   cases f:F as S1 with
   | ok a S2=>rw[f]at hb;exact⟨a,S2,m,j,rfl,λg H2 v e2=>hb g H2 v<|e1.trans e2⟩
   | ex c S2=>rw[f]at hb;exact hb.elim
   | no=>rw[f]at hb;exact hb.elim
def zJ:∀τ S as S',gy τ S=.ok as S'->as.length=0:=λτ S as S' h=>by cases h;rfl
def r_{c:Ex}{d:nu}{n:Nat}(h:∀τ S as S',d τ S=.ok as S'->as.length=n):∀τ S as S',gn c d τ S=.ok as S'->as.length=n+1:=λτ S as S' e=>by
 unfold gn at e
 cases hc:c τ S with
 | ok a S1=>
  rw[hc]at e
  cases hd:d τ S1 with
  | ok bs S2=>
   have e:R.bind (d τ S1) (λas S2=>.ok (a::as) S2)=.ok as S':=e;rw[hd]at e;cases e;rw[bB,h τ S1 bs _ hd]
  | ex _ _=>
   have e:R.bind (d τ S1) (λas S2=>.ok (a::as) S2)=.ok as S':=e;rw[hd]at e;cases e
  | no=>
   have e:R.bind (d τ S1) (λas S2=>.ok (a::as) S2)=.ok as S':=e;rw[hd]at e;cases e
 | ex _ _=>rw[hc]at e;cases e
 | no=>rw[hc]at e;cases e
end
section
variable {X:Cx}{pos:Pos}{a b c:aC}
abbrev Nz (f':A->A->gu->R A)(cc:Ex)(τ:ae)(b k:A)(S:gu):R A:=match k with
 | .bl true=>(cc τ S).bind λc S4=>f' b c S4
 | .bl false=>.ok (.bl false) S
 | _=>.no
abbrev LU (f f':A->A->gu->R A)(ca cb cc:Ex):Ex:=λτ S=>(ca τ S).bind λa S1=>(cb τ S1).bind λb S2=>(f a b S2).bind λk S3=>Nz f' cc τ b k S3
def Je{f f':A->A->gu->R A}{ca cb cc:Ex}{H:Hp}{Q:VK}(h:tE X (LU f f' ca cb cc) σ H Q):EO (r2 X f) (r2 X f') (tE X ca) (tE X cb) (tE X cc) σ H Q:=by
 kln_w;refine⟨ρ,S,τ,R,r,gv (gz h) .refl λa S1 h1 ρ1 H1 x e1 K J=>⟨ρ1,S1,τ,K,r.ext e1,gv (gz h1) e1 λb S2 h2 j H2 y e2 R2 C=>?_⟩⟩;have g:=e1.trans e2;refine⟨j,S2,a,b,R2,J.ext e2,C,gv (gz h2) g λk S3 m ρ3 L z B F G=>?_⟩;have d:=g.trans B
 cases k with
 | bl k=>
  cases vV G
  refine⟨k,rfl,?_⟩
  cases k with
  | true=>
   rw[aX rfl];exact⟨ρ3,S3,τ,F,r.ext d,gv (gz m) d λc S4 M t N w e4 R4 v4=>⟨t,S4,b,c,R4,C.ext<|B.trans e4,v4,gv M (d.trans e4) λ_ _ q=>q.ext<|d.trans e4⟩⟩
  | false=>
   rw[aZ bh];exact m ρ3 L _ d F<|.bl false
 | _=>exact m.elim
def LC{f f':A->A->gu->R A}{ca cb cc:Ex}(ho:jZ X (compareOp op)<|r2 X f)(ho':jZ X (compareOp op')<|r2 X f')(ha:AE X a ca)(hb:AE X b cb)(hc:AE X c cc)(hm:lastMarks [op,op'] [b,c]=false:=by with_unfolding_all rfl) :
  AE X (.Compare a [op,op'] [b,c] pos) (LU f f' ca cb cc):=PE.imp (CK ho ho' ha hb hc hm) λ_ _ _ h=>Je h
abbrev Kz (S:gu)(x:A):ae->bi
 | []=>some false
 | z::zs=>(oi S 12 z x).bind λp=>(Kz S x zs).map λq=>p || q
abbrev Nl (neg:Bool)(x y:A)(S:gu):R A:=opt (y.seq S) λys=>opt (Kz S x ys) λb=>.ok (.bl<|if neg then !b else b) S
def za{H:Hp}{x:A}{v:aa}(I:Inv X pins σ H s)(R:Rel X.K ρ H S)(hu:X.A.units+64<cLine)(hx:AV X.K ρ H x vx)(rx:RelV vx v) :
  ∀{ys:ae} {us:List V} {its:ar} {b:Bool},AVs X.K ρ H ys us->Vals us its->Kz S x ys=some b->∃e:aa->Bool,(∀w∈its,SeqAt.EqAt X.A.in1 s w v<|e w)/\its.any e=b:=by
 intro ys
 induction ys with
 | nil=>
  intro us its b h1 h2 h
  cases h1
  cases h2
  exact⟨λ_=>false,(λw hw=>by cases hw),aR h⟩
 | cons z zs j=>
  intro us its b h1 h2 h
  cases h1 with
  | cons C m=>
   rename_i u us
   cases h2 with
   | cons r F=>
    rename_i f its
    classical
    obtain⟨p,hp,h⟩:=bN.mp h;obtain⟨q,B,h⟩:=bg.mp h;obtain⟨e,g,k⟩:=j m F B;have h0:=(A5 I R 12 X.A.in1 z x u vx f v p (by rw[in1_units];omega) C hx r rx hp).2.1;subst h
    cases p with
    | true=>
     refine⟨λw=>if w=f then true else e w,λw hw=>?_,?_⟩
     ·by_cases d:w=f
      ·dsimp[d,gi];exact h0
      ·dsimp[d,fJ]
       rcases br.mp hw with z|z
       ·exact absurd z d
       ·exact g w z
     ·simp
    | false=>
     by_cases hm:f∈its
     ·refine⟨e,λw hw=>?_,?_⟩
      ·rcases br.mp hw with z|z
       ·rw[z];exact g f hm
       ·exact g w z
      ·rw[dD,k,Bool.false_or]
       cases q with
       | true=>simp
       | false=>
        have:=List.any_eq_false.mp k f hm;simpa using this
     ·refine⟨λw=>if w=f then false else e w,λw hw=>?_,?_⟩
      ·by_cases d:w=f
       ·dsimp[d,gi];exact h0
       ·dsimp[d,fJ]
        rcases br.mp hw with z|z
        ·exact absurd z d
        ·exact g w z
      ·rw[dD,<- k];dsimp[gi,Bool.false_or];have:∀l:ar,(∀w∈l,w≠f)->l.any (λw=>if w=f then false else e w)=l.any e:=λl t=>by
        induction l with
        | nil=>rfl
        | cons c l j=>rw[dD,dD,j λw hw=>t w<|aK _ hw,aZ<|t c<|aY ..]
       exact this its λw hw z=>hm<|z ▸ hw
def Mm(hu:X.A.units+64<cLine):jZ X (compareOp .In) (r2 X<|Nl false):=λpins s σ H x y v u Q I rx ry h9=>by
 x_go;obtain⟨ys,hy,h⟩:=gE h;obtain⟨k,t,h⟩:=gE h;obtain⟨p,us,rfl,hs,r⟩:=De R vb hy
 cases ry
 rcases hs with hs|hs
 ·obtain⟨d,m,j,z⟩:=I.list hs;obtain⟨e,g,f⟩:=za I R hu va rx r m t;refine SeqAt.in_listAt e j.isList (λw hw=>g w<|by simpa using hw) ⟨.bl _,H,I,rfl,?_⟩;rw[show d.toArray.any e=d.any e by simp,f];exact h _ _ _ .refl R (.bl _)
 ·obtain⟨d,m,j,z⟩:=I.tuple hs;obtain⟨e,g,f⟩:=za I R hu va rx r m t;refine SeqAt.in_tupleAt e j (λw hw=>g w<|by simpa using hw) ⟨.bl _,H,I,rfl,?_⟩;rw[show d.toArray.any e=d.any e by simp,f];exact h _ _ _ .refl R<|.bl _
end
section
variable {X:Cx}
abbrev Iu (x:A)(S:gu):R A:=match x with
 | .ref n=>opt (gm S n) λxs=>opt (A.ints xs) λd=>.ok (.int d.sum) S
 | _=>.no
def Lb(hc:X.calm=true):ir X (.builtin "sum") (rN X<|f1 Iu):=ir.imp (A7 hc) λd H Q h0=>by
 ksr_p;clear h0
 cases hv with
 | @ref p n hp=>
  kpc_g;obtain⟨f,hb,h⟩:=gE h;obtain⟨d,h1,r⟩:=R.lst hp<|gF hn;rw[yO r hb]at h1;exact⟨p,f,rfl,jh.of h1,h _ _ _ .refl R<|.int _⟩
 | _=>exact h.elim
end
section
variable {X:Cx}{pos:Pos}{a b:aC}
abbrev tM (n m k:Nat):Src:=⟨k,λi S=>(gm S n).bind λxs=>(gm S m).bind λys=>(xs[i]?).bind λx=>(ys[i]?).map λy=>.tup [x,y],λS=>match gm S n,gm S m with
 | some xs,some ys=>decide (xs.length<=k) || decide (ys.length<=k)
 | _,_=>false⟩
abbrev M9 (a b:A)(S:gu):R Src:=match a,b with
 | .ref n,.ref m=>opt (gm S n) λxs=>opt (gm S m) λys=>.ok (tM n m<|min xs.length ys.length) S
 | _,_=>.no
abbrev uh (c d:Ex):Ic:=λτ S=>(c τ S).bind λa S1=>(d τ S1).bind λb S2=>M9 a b S2
def Kg{K:aq}{ρ0:ba}{H0:Hp}{p q:aj}{n m k:Nat}(hp:ρ0[n]?=some p)(hq:ρ0[m]?=some q):JR K (tM n m k) (M6 K p q) ρ0 H0 where
 go:=λi S H ρ x e R g=>by
  obtain⟨xs,hn,g⟩:=bN.mp g;obtain⟨ys,hm,g⟩:=bN.mp g;obtain⟨M,hx,g⟩:=bN.mp g;obtain⟨L,hy,rfl⟩:=bg.mp g;obtain⟨f,h1,r1⟩:=R.lst (e.get hp)<|gF hn;obtain⟨d,h2,r2⟩:=R.lst (e.get hq)<|gF hm;obtain⟨v,ev,B⟩:=r1.get hx;obtain⟨w,t,G⟩:=r2.get hy;refine⟨⟨f,d,v,w,jh.of h1,jh.of h2,ev,t⟩,λu H' z=>?_⟩;obtain⟨T,C,rfl,J⟩:=z;have j:=J f d v w (jh.of h1) (jh.of h2) ev t;subst j;obtain⟨ex,F⟩:=R.im (u:=.tup [v,w]) C;exact⟨ex,F,.tup iF<|.cons (B.ext ex)<|.cons (G.ext ex) .nil⟩
 stop:=λS H ρ e R hf=>by
  have hf:(match gm S n,gm S m with
   | some xs,some ys=>decide (xs.length<=k) || decide (ys.length<=k)
   | _,_=>false)=true:=hf
  cases hn:gm S n with
  | none=>rw[hn]at hf;cases hf
  | some xs=>
   cases hm:gm S m with
   | none=>rw[hn,hm]at hf;cases hf
   | some ys=>
    rw[hn,hm]at hf;obtain⟨f,h1,r1⟩:=R.lst (e.get hp)<|gF hn;obtain⟨d,h2,r2⟩:=R.lst (e.get hq)<|gF hm;refine⟨f,d,jh.of h1,jh.of h2,?_⟩;rw[cW,cW,<- r1.length,<- r2.length];have hf:(decide (xs.length<=k) || decide (ys.length<=k))=true:=hf;rw[gf,eF,eF]at hf;exact hf
def Jd{p:Pos}{c d:Ex}(hm:X.mg "zip" = none)(ha:AE X a c)(hb:AE X b d)(hg:Gl X "zip" := by rfl)(hs:starEach [a,b] X.env=(false,eval a X.env)::starEach [b] X.env:=by rfl)(hs2:starEach [b] X.env=[(false,eval b X.env)]:=by rfl)(hpl:(backTo pos<|starEach [b] X.env).any (·.1)=false:=by rfl) :
  AI X (.Tuple elts x1 tpos) (.Call (.Name "zip" p) [a,b] [] pos) (uh c d):=λpins s σ H Q I h9=>by
 z_go;refine I_ hg hm (jT ha (jT hb qC hs2) hs) hs hpl pins s σ H Q I ⟨ρ,S,τ,R,r,gv (gz h) .refl λx S1 h1 ρ1 H1 v e1 G F=>⟨ρ1,S1,τ,G,r.ext e1,gv (gz h1) e1 λy S2 h2 f H2 w e2 R2 t=>?_⟩⟩;have j:=F.ext e2
 cases j with
 | @ref p n hp=>
  cases t with
  | @ref q m k=>
   obtain⟨xs,hn,h2⟩:=gE h2;obtain⟨ys,g,h2⟩:=gE h2;obtain⟨C,z,r1⟩:=R2.lst hp<|gF hn;obtain⟨B,g2,r2⟩:=R2.lst k<|gF g;exact⟨_,_,C,B,rfl,jh.of z,jh.of g2,h2 f H2 _ (e1.trans e2) R2<|Kg hp k⟩
  | _=>exact h2.elim
 | _=>exact h2.elim
def Dh{c d:Ex}{n:Nat}{xs ys:ae}(h1:c τ S=.ok (.ref n) S1)(h2:d τ S1=.ok (.ref m) S2)(hn:gm S2 n=some xs)(hm:gm S2 m=some ys):uh c d τ S=.ok (tM n m<|min xs.length ys.length) S2:=by
 unfold uh;rw[h1];show(d τ S1).bind _=_;rw[h2];show opt (gm S2 n) _=_;rw[hn]
 skip
 rw[hm];rfl
end
section
variable {X:Cx}{pos:Pos}{a:aC}
abbrev qR (n k:Nat):Src:=⟨k,λi S=>(gm S n).bind λxs=>(xs[i]?).map λx=>.tup [.int i,x],λS=>match gm S n with
 | some ys=>decide (ys.length=k)
 | none=>false⟩
abbrev N8 (a:A)(S:gu):R Src:=match a with
 | .ref n=>opt (gm S n) λxs=>.ok (qR n xs.length) S
 | _=>.no
abbrev DZ (c:Ex):Ic:=λτ S=>(c τ S).bind λa S1=>N8 a S1
def JV{K:aq}{ρ0:ba}{H0:Hp}{p:aj}{n k:Nat}(hp:ρ0[n]?=some p):JR K (qR n k) (Ih K p) ρ0 H0 where
 go:=λi S H ρ x e R g=>by
  obtain⟨xs,hn,g⟩:=bN.mp g;obtain⟨y,hy,rfl⟩:=bg.mp g;obtain⟨d,h1,r1⟩:=R.lst (e.get hp)<|gF hn;obtain⟨v,ev,m⟩:=r1.get hy;refine⟨⟨d,v,jh.of h1,ev⟩,λw H' q=>?_⟩;obtain⟨B,f,rfl,z⟩:=q;have j:=z d v (jh.of h1) ev;subst j;obtain⟨ex,t⟩:=R.im (u:=.tup [.int i,v]) f;exact⟨ex,t,.tup iF<|.cons (.int _)<|.cons (m.ext ex) .nil⟩
 stop:=λS H ρ e R hf=>by
  have hf:(match gm S n with
   | some ys=>decide (ys.length=k)
   | none=>false)=true:=hf
  cases hn:gm S n with
  | none=>rw[hn]at hf;cases hf
  | some xs=>
   rw[hn]at hf;obtain⟨d,h1,r1⟩:=R.lst (e.get hp)<|gF hn;exact⟨d,jh.of h1,by rw[<- r1.length];exact fQ hf⟩
def IW{p:Pos}{c:Ex}(hm:X.mg "enumerate" = none)(ha:AE X a c)(hg:Gl X "enumerate" := by rfl)(hs:starEach [a] X.env=[(false,eval a X.env)]:=by rfl):AI X (.Tuple elts x1 tpos) (.Call (.Name "enumerate" p) [a] [] pos) (DZ c):=λpins s σ H Q I h9=>by
 z_go;refine EV hg hm (jT ha qC hs) hs pins s σ H Q I ⟨ρ,S,τ,R,r,gv (gz h) .refl λx S1 h1 ρ1 H1 v e1 d j=>?_⟩
 cases j with
 | @ref p n hp=>
  obtain⟨xs,hn,h1⟩:=gE h1;obtain⟨g,f,r1⟩:=d.lst hp<|gF hn;exact⟨_,g,rfl,jh.of f,h1 ρ1 H1 _ e1 d<|JV hp⟩
 | _=>exact h1.elim
def F2{c:Ex}{n:Nat}{xs:ae}(h:c τ S=.ok (.ref n) S1)(hn:gm S1 n=some xs):DZ c τ S=.ok (qR n xs.length) S1:=by
 unfold DZ;rw[h];show opt (gm S1 n) _=_;rw[hn];rfl
end
abbrev j8 (s:Src)(g:Tg)(t:Te)(e:Ex):Nat->Nat->ae->gu->R (ae×ae)
 | 0,_=>λτ S=>if s.fin S then .ok ([],τ) S else .no
 | k+1,i=>λτ S=>opt (s.get i S) λx=>(g x τ S).h_ λτ1 S1=>(t τ1 S1).h_ λb S2=>match b with
  | true=>(e τ1 S2).h_ λy S3=>(j8 s g t e k (i+1) τ1 S3).h_ λp S4=>.ok (y::p.1,p.2) S4
  | false=>j8 s g t e k (i+1) τ1 S2
abbrev jx (s:Src)(g:Tg)(t:Te)(src2:Ic)(g2:Tg)(t2:Te)(e:Ex):Nat->Nat->ae->gu->R (ae)
 | 0,_=>λ_ S=>if s.fin S then .ok [] S else .no
 | k+1,i=>λτ S=>opt (s.get i S) λx=>(g x τ S).h_ λτ1 S1=>(t τ1 S1).h_ λb S2=>match b with
  | true=>(src2 τ1 S2).h_ λd S3=>(j8 d g2 t2 e d.k 0 τ1 S3).h_ λp S4=>(jx s g t src2 g2 t2 e k (i+1) p.2 S4).h_ λys S5=>.ok (p.1++ys) S5
  | false=>jx s g t src2 g2 t2 e k (i+1) τ1 S2
abbrev uM (cap:List<|bj)(src:Ic)(g:Tg)(t:Te)(src2:Ic)(g2:Tg)(t2:Te)(e:Ex):Ex:=λτ S=>(src τ S).bind λs S1=>(jx s g t src2 g2 t2 e s.k 0 (jJ cap τ) S1).h_ λys S2=>newL ys S2
def vK{s:Src}{g:Tg}{t:Te}{e:Ex}{k:Nat}{T:Prop}(h:j8 s g t e (k+1) i τ S=.ok (zs,τ') S')
  (q:∀x τ1 S1 b S2,s.get i S=some x->g x τ S=.ok τ1 S1->t τ1 S1=.ok b S2->(b=true->∃y S3 ws,e τ1 S2=.ok y S3/\j8 s g t e k (i+1) τ1 S3=.ok (ws,τ') S'/\zs=y::ws)->(b=false->j8 s g t e k (i+1) τ1 S2=.ok (zs,τ') S')->T):T:=by
 obtain⟨x,hx,h⟩:=qp h;obtain⟨τ1,S1,h1,h⟩:=gU h;obtain⟨b,S2,h2,h⟩:=gU h;kl_no
 ·subst hb;obtain⟨y,S3,j,h⟩:=gU h;obtain⟨⟨ws,d⟩,S4,f,h⟩:=gU h
  cases h
  exact⟨y,S3,ws,j,f,rfl⟩
 ·subst hb;exact h
def vB{s:Src}{g:Tg}{t:Te}{src2:Ic}{g2:Tg}{t2:Te}{e:Ex}{k:Nat}{T:Prop}(h:jx s g t src2 g2 t2 e (k+1) i τ S=.ok zs S')
  (q:∀x τ1 S1 b S2,s.get i S=some x->g x τ S=.ok τ1 S1->t τ1 S1=.ok b S2->(b=true->∃s2 S3 ps τ2 S4 ws,src2 τ1 S2=.ok s2 S3/\j8 s2 g2 t2 e s2.k 0 τ1 S3=.ok (ps,τ2) S4/\jx s g t src2 g2 t2 e k (i+1) τ2 S4=.ok ws S'/\zs=ps++ws)->(b=false->jx s g t src2 g2 t2 e k (i+1) τ1 S2=.ok zs S')->T):T:=by
 obtain⟨x,hx,h⟩:=qp h;obtain⟨τ1,S1,h1,h⟩:=gU h;obtain⟨b,S2,h2,h⟩:=gU h;kl_no
 ·subst hb;obtain⟨s2,S3,d,h⟩:=gU h;obtain⟨⟨ps,τ2⟩,S4,j,h⟩:=gU h;obtain⟨ws,S5,f,h⟩:=gU h
  cases h
  exact⟨s2,S3,ps,τ2,S4,ws,d,j,f,rfl⟩
 ·subst hb;exact h
abbrev Ma (K:aq)(c:Ic):TI:=λσ H Q=>∃ρ S τ s d,Rel K ρ H S/\SR K ρ H τ σ/\c τ S=.ok s d/\∀ρ' H' J,Ext ρ ρ' H H'->Rel K ρ' H' d->JR K s J ρ' H'->Q J H'
section
variable {X:Cx}{pos:Pos}{tg iter tg2 iter2 elt e:aC}{ifs ifs2:List aC}{scope:Scope}{N:ap}{cap:List (bj)}{src src2:Ic}{g g2:Tg}{t t2:Te}{c:Ex}
def AI.i0{K:aq}(hK:X.K=K)(h:AI X tg e src):PI X tg e (Ma K src):=λpins s σ H Q I ⟨ρ,S,τ,a,g,R,r,hc,q⟩=>h pins s σ H Q I ⟨ρ,S,τ,by rw[hK];exact R,by rw[hK];exact r,by rw[hc];exact λρ' H' J e d f=>q ρ' H' J e (by rw[<- hK];exact d)<|by rw[<- hK];exact f⟩
def CC(hc:X.calm=true)(Sc:CpScope X scope N cap)(hi:AI X tg iter src)(hg:∀C s₀ H₀ ex,AG (gQ X scope N C s₀ H₀ ex) tg g)(ht:∀C s₀ H₀ ex,Hz (gQ X scope N C s₀ H₀ ex) ifs t)(hi2:∀C s₀ H₀ ex,AI (gQ X scope N C s₀ H₀ ex) tg2 iter2 src2)
  (hg2:∀C s₀ H₀ ex,AG (gQ X scope N C s₀ H₀ ex) tg2 g2) (ht2:∀C s₀ H₀ ex,Hz (gQ X scope N C s₀ H₀ ex) ifs2 t2) (he:∀C s₀ H₀ ex,AE (gQ X scope N C s₀ H₀ ex) elt c)
  (hs:∀x,foldedSetIterable iter X.env x=pure x:=by intro _;rfl) (hs2:∀env x,foldedSetIterable iter2 env x=pure x:=by intro _ _;rfl):AE X (.ListComp elt [⟨tg,iter,ifs,0⟩,⟨tg2,iter2,ifs2,0⟩] scope pos) (uM cap src g t src2 g2 t2 c):=by
 refine PE.imp (JN hc Sc hi (g:=FE X.K g) (tc:=Dj X.K t) (wi2:=Ma X.K src2) (g2:=FE X.K g2) (tc2:=Dj X.K t2) (te:=Gq X.K c) (λC s₀ H₀ ex=>(hg C s₀ H₀ ex).g0 rfl) (λC s₀ H₀ ex=>ht C s₀ H₀ ex) (λC s₀ H₀ ex=>(hi2 C s₀ H₀ ex).i0 rfl) (λC s₀ H₀ ex=>(hg2 C s₀ H₀ ex).g0 rfl) (λC s₀ H₀ ex=>ht2 C s₀ H₀ ex) (λC s₀ H₀ ex=>(he C s₀ H₀ ex).e0 rfl) hs hs2) λσ H Q h9=>?_;z_go;refine⟨ρ,S,τ,R,r,gv (gz h) .refl λs S1 h1 ρ1 H1 J e1 R1 jr D hD=>?_⟩;obtain⟨ys,S2,hcg,h1⟩:=oK h1;obtain⟨hlen,h1⟩:=gS h1;have h1:rL X ρ H Q (.ref S2.length) (S2++[.lst ys]):=h1;obtain⟨eD,RD⟩:=R1.im (u:=.lst []) hD;refine⟨Cq X.K ρ1 H1 D ys s.k (λ_ _=>True) λm i τ S zs=>jx s g t src2 g2 t2 c m i τ S=.ok zs S2,⟨s.k,.of rfl ⟨eD.toExt0,λa u na hu _=>by rw[gA na];exact hu,λa ha=>.inl ha,R1.Dw hD,iF⟩ trivial RD (D8 ((r.ext e1).ext eD) cap) .nil hcg rfl⟩,?_⟩;intro i m σ3 H3 hw;refine hw.el λρ3 S3 τ3 acc zs accV hm o3 _ R3 r3 ac3 j M=>?_;clear hw
 cases m with
 | zero=>
  left;have j:(if s.fin S3 then Am.R.ok [] S3 else .no)=.ok zs S2:=j
  cases hf:s.fin S3 with
  | false=>rw[hf]at j;cases j
  | true=>
   rw[hf]at j
   cases j
   rw[bZ]at M;subst M;refine⟨by rw[show i=s.k by lia];exact jr.stop _ H3 ρ3 o3.e0 R3 hf,?_⟩;obtain⟨RT,gt⟩:=R3.take o3.hD o3.nD ac3;exact h1 (ρ3++[D]) H3 _ (e1.trans<|o3.end hD) RT<|.ref gt
 | succ m=>
  right;refine vB j λx τ4 S4 b S5 hx hg4 ht5 hT hF=>?_;have jg:=jr.go i S3 H3 ρ3 x o3.e0 R3 hx;refine⟨jg.1,λv H4 y=>?_⟩;obtain⟨e4,R4,v4⟩:=jg.2 v H4 y;gp_on;have e36:=(e4.trans e5).trans e6
  cases b with
  | false=>
   dsimp only;rw[aZ bh];exact⟨m,bw _,.of () (o3.stay hD e36) trivial R6 (r5.ext e6) (ac3.ext e36) (hF rfl) M⟩
  | true=>
   dsimp only;rw[aX rfl];obtain⟨s2,S6,ps,τ7,S7,ws,hs6,ci7,co7,ezs⟩:=hT rfl;refine⟨ρ6,S5,τ4,s2,S6,R6,r5.ext e6,hs6,λρ8 H8 J2 e8 R8 jr2=>?_⟩;have e38:=e36.trans e8;refine⟨Cq X.K ρ1 H1 D (acc++ps) s2.k (λρ' H'=>Ext0 ρ8 ρ' H8 H') λm i τ S qs=>j8 s2 g2 t2 c m i τ S=.ok (qs,τ7) S7,⟨s2.k,.of rfl (o3.stay hD e38) ⟨cQ _,λ_ _ _ h=>h⟩ R8 (r5.ext<|e6.trans e8) (ac3.ext e38) ci7 rfl⟩,?_⟩;intro i2 m2 σ9 H9 hw;refine hw.el λρ9 S9 τ9 acc9 qs F hm2 o9 U R9 r9 Y f G=>?_;clear hw
   cases m2 with
   | zero=>
    left;have f:(if s2.fin S9 then Am.R.ok ([],τ9) S9 else .no)=.ok (qs,τ7) S7:=f
    cases hf:s2.fin S9 with
    | false=>rw[hf]at f;cases f
    | true=>
     rw[hf]at f
     cases f
     rw[bZ]at G;subst G;exact⟨by rw[show i2=s2.k by lia];exact jr2.stop _ H9 ρ9 U R9 hf,m,bw _,.of () o9 trivial R9 r9 Y co7<|by rw[bK,<- ezs,M]⟩
   | succ m2=>
    right;refine vK f λx9 L S10 b10 S11 hx9 hg10 ht11 hT9 hF9=>?_;have jg2:=jr2.go i2 S9 H9 ρ9 x9 U R9 hx9;refine⟨jg2.1,λv10 H10 y10=>?_⟩;obtain⟨e10,R10,v10'⟩:=jg2.2 v10 H10 y10;refine⟨ρ9,S9,τ9,x9,L,S10,R10,r9.ext e10,v10',hg10,λρ11 H11 σ11 e11 R11 W=>⟨ρ11,S10,L,b10,S11,R11,W,ht11,λZ H12 P R12=>?_⟩⟩;have d:=(e10.trans e11).trans P;have o12:=o9.stay hD d;have B:Ext0 ρ8 Z H8 H12:=⟨U.pre.trans d.pre,λa u i h=>d.im a u i<|U.im a u i h⟩
    cases b10 with
    | false=>
     dsimp only;rw[aZ bh];exact⟨m2,bw _,.of () o12 B R12 (W.ext P) (Y.ext d) (hF9 rfl) G⟩
    | true=>
     dsimp only;rw[aX rfl];obtain⟨y,S13,us,he13,ci13,eus⟩:=hT9 rfl;refine⟨Z,S11,L,y,S13,R12,W.ext P,he13,λρ14 H14 w O R14 v14=>?_⟩;have V:=o12.stay hD O;obtain⟨z,R15⟩:=R14.out (ws:=F++[w]) V.hD V.nD;have l1:=Y.length;refine⟨F,V.hD,?_,m2,bw _,.of () (V.put z) ⟨B.pre.trans O.pre,λa u i h=>z.im a u i<|O.im a u i<|B.im a u i h⟩ R15 ((W.ext<|P.trans O).iY z) (AVs.iY z<|(Y.ext<|d.trans O).append<|.one v14) ci13 ?_⟩
     ·have:((acc++ps)++ws).length<=sizeLine:=by rw[bK,<- ezs,M];exact hlen
      rw[<- G,eus,aM,aM,bB]at this
      lia
     ·rw[bK,<- G,eus];rfl
end
abbrev Ni (F:ae->gu->R A)(d:nu):Ex:=λτ S=>(d τ S).bind λf S1=>F f S1
abbrev NT:ar:=[.type "ValueError",.type "Exception",.type "BaseException",.type "object"]
abbrev GO:List (Str ⊕ Ex)->ae->gu->R Unit
 | [],_,S=>.ok Unit.unit S
 | .inl _::ps,τ,S=>GO ps τ S
 | .inr e::ps,τ,S=>(e τ S).bind λv S1=>match v with
  | .int i=>gd (i.natAbs.log2<64) (GO ps τ S1)
  | _=>.no
abbrev Ii (c:Str)(ps:List<|Str ⊕ Ex):Sm:=λτ S=>.of (GO ps τ S) λ_ S1=>.ex c S1
abbrev Ho (i:Nat):RS->RS
 | .nx τ S=>.nx (τ.set i .unb) S
 | .bk τ S=>.bk (τ.set i .unb) S
 | .ct τ S=>.ct (τ.set i .unb) S
 | .rt a S=>.rt a S
 | _=>.no
abbrev LV (i n:Nat)(cs:ap)(c d:Sm):Sm:=λτ S=>match c τ S with
 | .ex x S1=>if x∈cs then Ho i (d ((List.replicate n .unb).set i<|.exn x) S1)else .no
 | r=>r
abbrev MT (f:Str->bi)(c:Ex):Ex:=λτ S=>(c τ S).bind λv S1=>match v with
 | .exn x=>opt (f x) λb=>.ok (.bl b) S1
 | _=>.no
structure ExcK (K:aq)(U:aj)(c:Str)(C:aj):Prop where
 n:M8 K c C
 q:PySem.W.excIn K C NT "ValueError.__new__" = true
 r:L2.mroIn K C=some (.ref U::NT)
 x:XCls K C
 cl:(PySem.W.clsIn K C).isSome=true
 v:PySem.W.kitOne K (.ref C) (.type "ValueError")=some true
abbrev N7 (tb:List<|Str×Bool):Str->bi:=λx=>tb.lookup x
abbrev KJ (F:ae->gu->R A)(d:nu):Ex:=λτ S=>match d τ S with
 | .ok f S1=>F f S1
 | _=>.no
section
variable {d:nu}
abbrev K1 (t:Te)(c d:Sm):Sm:=λτ S=>match t τ S with
 | .ok true S1=>c τ S1
 | .ok false S1=>d τ S1
 | _=>.no
end
abbrev Hu (i:Nat)(cs:ap)(c d:Sm):Sm:=λτ S=>match c τ S with
 | .ex x S1=>if x∈cs then Ho i (d (τ.set i<|.exn x) S1)else .no
 | r=>r
abbrev Nv:Sm:=λ_ _=>.no
def Lw{st:aE}:AS X st Nv:=PS.imp DE λD σ H ⟨ρ,S,τ,R,r,h⟩=>h.elim
def BQ{K:aq}{H:Hp}{a:aj}{ns:ag}{F:ae->gu->R A}(hO:FI H)(hS:jh K H a<|ns.map V.int)(h:∃S',F [.frz<|ns.map .int] []=.ok (.bl true) S'):pq K 1 F [.ref a] H (λv _=>v=.bl true) λ_ _ _=>False:=by
 obtain⟨S',h⟩:=h;have fz:Fz K H a (ns.map V.int):=by
  rcases hS with(h|⟨o,h⟩)|h
  ·rcases hO a with z|⟨ob,xs,z⟩
   ·rw[h]at z;cases z
   ·rw[h]at z;cases z
  ·exact .inl ⟨o,h⟩
  ·exact .inr h
 exact⟨rfl,[],[],_,_,S',⟨rfl,gg,λn a o h=>by simp at h⟩,.cons (.frz fz<|qd ns) .nil,h,λρ' H' v _ _ hv=>vV hv⟩
def FH{P:ar->Prop}(h:∀a0,P [a0]):∀us:ar,us.length=1->P us
 | [_],_=>h _
def BC{P:ar->Prop}(h:∀a0 a1,P [a0,a1]):∀us:ar,us.length=2->P us
 | [_,_],_=>h _ _
end Am
namespace Am
open PySem L2
section
variable {α β:Type}{a b:A}{S S1:gu}{τ:ae}{x:α}
@[simp]def R.iV {f:α->gu->R β}:(R.ok x S).bind f=f x S:=rfl
@[simp]def R.Av {f:α->gu->R β}{c:Str}:(R.ex c S:R α).bind f=.ex c S:=rfl
@[simp]def R.gY {f:α->gu->R β}:(R.ok x S).h_ f=f x S:=rfl
@[simp]def RS.of_ok {f:α->gu->RS}:RS.of (R.ok x S) f=f x S:=rfl
@[simp]def RS.Hv {f:α->gu->RS}{c:Str}:RS.of (R.ex c S:R α) f=.ex c S:=rfl
@[simp]def ie {f:β->R α}{y:β}:opt (some y) f=f y:=rfl
@[simp]def zE {r:R α}:gd True r=r:=aX trivial
theorem jz{c:Prop}[Decidable c]{r:R α}(h:c):gd c r=r:=aX h
@[simp]def ki {i:Nat}:gk i τ S=bif (τ.getD i .unb).jL then .no else .ok (τ.getD i .unb) S:=by unfold gk;cases(τ.getD i .unb).jL<;>rfl
@[simp]def zZ {xs:ae}:A.jL (.tup xs)=false:=rfl
@[simp]def AH {xs:ae}:A.jL (.frz xs)=false:=rfl
@[simp]def zf {i:Int}:A.jL (.int i)=false:=rfl
@[simp]def Cm {i:Bool}:A.jL (.bl i)=false:=rfl
@[simp]def AX {i:Str}:A.jL (.str i)=false:=rfl
@[simp]def yV {i:Nat}:A.jL (.ref i)=false:=rfl
@[simp]def zI:A.jL .non=false:=rfl
@[simp]def zc {i j:Int}:A.jL (.rng i j)=false:=rfl
@[simp]def zX {c:Str}:A.jL (.exn c)=false:=rfl
@[simp]def HG:eC a τ S=.ok a S:=rfl
abbrev Ln (f:A->A->gu->R A)(cb:Ex)(τ:ae)(a:A)(S:gu):R A:=(cb τ S).bind<|f a
@[simp]def yT {f:A->A->gu->R A}{cb:Ex}:Ln f cb τ a S=(cb τ S).bind (f a):=rfl
@[simp]def yP {f:A->A->gu->R A}{ca cb:Ex}:gC f ca cb τ S=(ca τ S).bind (Ln f cb τ):=rfl
@[simp]def Dn {f:A->gu->R A}{ca:Ex}:G2 f ca τ S=(ca τ S).bind f:=rfl
@[simp]def zP {c:Ex}:rz c τ S=(c τ S).bind λa S1=>opt (a.KU S1) λb=>.ok b S1:=rfl
abbrev aB (a:A)(S:gu):R Bool:=match a with
 | .bl b=>.ok b S
 | _=>.no
@[simp]def Hi {b:Bool}:aB (.bl b) S=.ok b S:=rfl
@[simp]def Dy {c:Ex}:p7 c τ S=(c τ S).bind aB:=rfl
@[simp]def yW {c:Te}:su c τ S=(c τ S).bind λb S1=>.ok (!b) S1:=rfl
abbrev IP (d:Te)(τ:ae)(b:Bool)(S:gu):R Bool:=match b with|true=>d τ S|false=>.ok false S
abbrev Mz (d:Te)(τ:ae)(b:Bool)(S:gu):R Bool:=match b with|true=>.ok true S|false=>d τ S
@[simp]def CQ {d:Te}:IP d τ true S=d τ S:=rfl
@[simp]def Er {d:Te}:IP d τ false S=.ok false S:=rfl
@[simp]def G9 {d:Te}:Mz d τ true S=.ok true S:=rfl
@[simp]def G5 {d:Te}:Mz d τ false S=d τ S:=rfl
@[simp]def y9 {c d:Te}:EG c d τ S=(c τ S).bind (IP d τ):=rfl
@[simp]def CM {c d:Te}:Bw c d τ S=(c τ S).bind (Mz d τ):=rfl
@[simp]def AY:iL τ S=.ok true S:=rfl
abbrev C5 (d:Ex)(τ:ae)(a:A)(S:gu):R A:=match a with | .bl true=>d τ S | .bl false=>.ok (.bl false) S|_=>.no
abbrev JC (d:Ex)(τ:ae)(a:A)(S:gu):R A:=match a with | .bl true=>.ok (.bl true) S | .bl false=>d τ S|_=>.no
@[simp]def Ae {d:Ex}:C5 d τ (.bl true) S=d τ S:=rfl
@[simp]def z7 {d:Ex}:C5 d τ (.bl false) S=.ok (.bl false) S:=rfl
@[simp]def Eu {d:Ex}:JC d τ (.bl true) S=.ok (.bl true) S:=rfl
@[simp]def EJ {d:Ex}:JC d τ (.bl false) S=d τ S:=rfl
@[simp]def zb {c d:Ex}:q_ c d τ S=(c τ S).bind (C5 d τ):=by
 unfold q_
 cases c τ S with
 | ok a S1=>cases a<;>first|rfl|(rename_i b;cases b<;>rfl)
 | _=>rfl
@[simp]def EH {c d:Ex}:NW c d τ S=(c τ S).bind (JC d τ):=by
 unfold NW
 cases c τ S with
 | ok a S1=>cases a<;>first|rfl|(rename_i b;cases b<;>rfl)
 | _=>rfl
abbrev HV (a:A)(S:gu):R A:=match a with | .bl b=>.ok (.bl !b) S|_=>.no
@[simp]def wD {b:Bool}:HV (.bl b) S=.ok (.bl !b) S:=rfl
@[simp]def yR {c:Ex}:DY c τ S=(c τ S).bind HV:=rfl
abbrev Jm (c d:Ex)(τ:ae)(b:Bool)(S:gu):R A:=match b with|true=>c τ S|false=>d τ S
@[simp]def DL {c d:Ex}:Jm c d τ true S=c τ S:=rfl
@[simp]def Cf {c d:Ex}:Jm c d τ false S=d τ S:=rfl
@[simp]def DK {t:Te}{c d:Ex}:Oi t c d τ S=(t τ S).bind (Jm c d τ):=rfl
@[simp]def yM:gy τ S=.ok [] S:=rfl
abbrev yh (a:A)(as:ae)(S:gu):R (ae):=.ok (a::as) S
abbrev HE (d:nu)(τ:ae)(a:A)(S:gu):R (ae):=(d τ S).bind<|yh a
@[simp]def uq {as:ae}:yh a as S=.ok (a::as) S:=rfl
@[simp]def wA {d:nu}:HE d τ a S=(d τ S).bind (yh a):=rfl
@[simp]def wO {c:Ex}{d:nu}:gn c d τ S=(c τ S).bind (HE d τ):=rfl
@[simp]def zg {d:nu}:Bd d τ S=(d τ S).bind λas S1=>gd (as.length<=sizeLine) (.ok (.tup as) S1):=rfl
@[simp]def zl {d:nu}:ko d τ S=(d τ S).bind newL:=rfl
theorem iz{as:ae}(h:as.length<=16777216):newL as S=.ok (.ref S.length) (S++[.lst as]):=jz<|by rw[cG];exact h
@[simp]def wZ {f:ae->gu->R A}{d:nu}:gI f d τ S=(d τ S).bind f:=rfl
abbrev MQ (r:R A):R A:=match r with
 | .ok a S=>.ok a S
 | _=>.no
@[simp]def Co:MQ (.ok a S)=.ok a S:=rfl
abbrev NH (f:ae->gu->R A)(as:ae)(S:gu):R A:=MQ<|f as S
@[simp]def Ek {f:ae->gu->R A}{as:ae}:NH f as S=MQ (f as S):=rfl
@[simp]def Eg {f:ae->gu->R A}{d:nu}:eFn f d τ S=(d τ S).bind (NH f):=rfl
@[simp]def Hw {g:A->gu->R A}:f1 g [a] S=g a S:=rfl
@[simp]def HS {g:A->A->gu->R A}:f2 g [a,b] S=g a b S:=rfl
abbrev Im (h:Pt)(τ:ae)(a:A)(l:Option Int)(S:gu):R A:=(h τ S).bind<|L6 a l
abbrev NL (l h:Pt)(τ:ae)(a:A)(S:gu):R A:=(l τ S).bind<|Im h τ a
@[simp]def AJ {h:Pt}{l:Option Int}:Im h τ a l S=(h τ S).bind (L6 a l):=rfl
@[simp]def D9 {l h:Pt}:NL l h τ a S=(l τ S).bind (Im h τ a):=rfl
@[simp]def Ep {c:Ex}{l h:Pt}:N_ c l h τ S=(c τ S).bind (NL l h τ):=rfl
@[simp]def wg:Ld τ S=.ok none S:=rfl
abbrev NP (a:A)(S:gu):R (Option Int):=match a with
 | .int i=>.ok (some i) S
 | _=>.no
@[simp]def zU {i:Int}:NP (.int i) S=.ok (some i) S:=rfl
@[simp]def vU {c:Ex}:KZ c τ S=(c τ S).bind NP:=rfl
abbrev J1 (f:A->ae->gu->R A)(d:nu)(τ:ae)(o:A)(S:gu)(_:ae):R A:=(d τ S).bind<|f o
abbrev N5 (f:A->ae->gu->R A)(d:nu)(τ:ae)(o:A)(S:gu):R A:=opt (o.lst? S)<|J1 f d τ o S
@[simp]def An {f:A->ae->gu->R A}{d:nu}{xs:ae}:J1 f d τ a S xs=(d τ S).bind (f a):=rfl
@[simp]def E7 {f:A->ae->gu->R A}{d:nu}:N5 f d τ a S=opt (a.lst? S) (J1 f d τ a S):=rfl
@[simp]def ED {f:A->ae->gu->R A}{c:Ex}{d:nu}:BA f c d τ S=(c τ S).bind (N5 f d τ):=rfl
@[simp]def AM {f:A->ae->gu->R A}{c:Ex}:IF f c τ S=(c τ S).bind λo S1=>opt (o.lst? S1) λ_=>f o [] S1:=rfl
@[simp]def lst?_ref {n:Nat}:A.lst? S (.ref n)=gm S n:=rfl
abbrev RS.seq (r:RS)(d:Sm):RS:=match r with
 | .nx τ S=>d τ S
 | r=>r
@[simp]def RS.Dr {d:Sm}:RS.seq (.nx τ S) d=d τ S:=rfl
@[simp]def RS.CZ {d:Sm}:RS.seq (.rt a S) d=.rt a S:=rfl
@[simp]def RS.DG {d:Sm}{c:Str}:RS.seq (.ex c S) d=.ex c S:=rfl
@[simp]def RS.EC {d:Sm}:RS.seq (.bk τ S) d=.bk τ S:=rfl
@[simp]def RS.EN {d:Sm}:RS.seq (.ct τ S) d=.ct τ S:=rfl
@[simp]def AA {c d:Sm}:gP c d τ S=RS.seq (c τ S) d:=by unfold gP RS.seq;cases c τ S<;>rfl
@[simp]def Ay:kg τ S=.nx τ S:=rfl
@[simp]def tY:Ju τ S=.bk τ S:=rfl
@[simp]def we:KP τ S=.ct τ S:=rfl
@[simp]def wc {e:Ex}:mH e τ S=RS.of (e τ S) λ_ S1=>.nx τ S1:=rfl
@[simp]def yQ {e:Ex}:iS e τ S=RS.of (e τ S) .rt:=rfl
@[simp]def xH:K3 τ S=.rt .non S:=rfl
abbrev Ks (c d:Sm)(τ:ae)(b:Bool)(S:gu):RS:=match b with|true=>c τ S|false=>d τ S
@[simp]def HR {c d:Sm}:Ks c d τ true S=c τ S:=rfl
@[simp]def Hy {c d:Sm}:Ks c d τ false S=d τ S:=rfl
@[simp]def C9 {t:Te}{c d:Sm}:sS t c d τ S=RS.of (t τ S) (Ks c d τ):=rfl
abbrev LI (g:Tg)(τ:ae)(a:A)(S:gu):RS:=RS.of (g a τ S) .nx
@[simp]def Ad {g:Tg}:LI g τ a S=RS.of (g a τ S) .nx:=rfl
@[simp]def zh {e:Ex}{g:Tg}:g_ e g τ S=RS.of (e τ S) (LI g τ):=rfl
@[simp]def Ms {i:Nat}:gW i a τ S=.ok (τ.set i a) S:=rfl
abbrev Jz (a o:A)(τ:ae)(i:A)(S:gu):R (ae):=(wJ o i a S).bind λ_ S3=>.ok τ S3
abbrev NF (ci:Ex)(τ:ae)(a o:A)(S:gu):R (ae):=(ci τ S).bind<|Jz a o τ
@[simp]def zC {o i:A}:Jz a o τ i S=(wJ o i a S).bind λ_ S3=>.ok τ S3:=rfl
@[simp]def Cb {ci:Ex}{o:A}:NF ci τ a o S=(ci τ S).bind (Jz a o τ):=rfl
@[simp]def Ea {co ci:Ex}:Kq co ci a τ S=(co τ S).bind (NF ci τ a):=rfl
@[simp]def B_ {n:Nat}{gs:FF}{xs:ae}:DQ n gs (.tup xs) τ S=gd (xs.length=n) (gs xs τ S):=rfl
@[simp]def CW:Cs [] τ S=.ok τ S:=rfl
@[simp]def C7 {g:Tg}{gs:FF}{as:ae}:uD g gs (a::as) τ S=(g a τ S).bind (gs as):=rfl
abbrev NG (i j:Nat)(τ:ae)(as:ae)(S:gu):RS:=match as with
 | [a,b]=>.nx ((τ.set i a).set j b) S
 | _=>.no
@[simp]def Cr {i j:Nat}:NG i j τ [a,b] S=.nx ((τ.set i a).set j b) S:=rfl
@[simp]def AZ {i j:Nat}{c:nu}:Mr i j c τ S=RS.of (c τ S) (NG i j τ):=rfl
abbrev Fg (i:Nat)(τ:ae)(c:A)(S:gu):RS:=.nx (τ.set i c) S
abbrev Lf (i:Nat)(f:A->A->gu->R A)(τ:ae)(b:A)(S:gu):RS:=.of (f (τ.getD i .unb) b S)<|Fg i τ
@[simp]def wM {i:Nat}:Fg i τ a S=.nx (τ.set i a) S:=rfl
@[simp]def yZ {i:Nat}{f:A->A->gu->R A}:Lf i f τ a S=.of (f (τ.getD i .unb) a S) (Fg i τ):=rfl
@[simp]def yY {i:Nat}{f:A->A->gu->R A}{e:Ex}:Ey i f e τ S=bif (τ.getD i .unb).jL then .no else .of (e τ S) (Lf i f τ):=by
 unfold Ey;cases(τ.getD i .unb).jL<;>rfl
abbrev MR (o i:A)(τ:ae)(z:A)(S:gu):RS:=.of (wJ o i z S) λ_ d=>.nx τ d
abbrev Nh (f:A->A->gu->R A)(o i x:A)(τ:ae)(y:A)(S:gu):RS:=.of (f x y S)<|MR o i τ
abbrev MI (ce:Ex)(f:A->A->gu->R A)(o i:A)(τ:ae)(x:A)(S:gu):RS:=.of (ce τ S)<|Nh f o i x τ
abbrev MK (ce:Ex)(f:A->A->gu->R A)(o:A)(τ:ae)(i:A)(S:gu):RS:=.of (FO o i S)<|MI ce f o i τ
abbrev NO (ci ce:Ex)(f:A->A->gu->R A)(τ:ae)(o:A)(S:gu):RS:=.of (ci τ S)<|MK ce f o τ
@[simp]def Fi {o i:A}:MR o i τ a S=.of (wJ o i a S) λ_ S6=>.nx τ S6:=rfl
@[simp]def DM {f:A->A->gu->R A}{o i x:A}:Nh f o i x τ a S=.of (f x a S) (MR o i τ):=rfl
@[simp]def EI {ce:Ex}{f:A->A->gu->R A}{o i:A}:MI ce f o i τ a S=.of (ce τ S) (Nh f o i a τ):=rfl
@[simp]def CP {ce:Ex}{f:A->A->gu->R A}{o:A}:MK ce f o τ a S=.of (FO o a S) (MI ce f o a τ):=rfl
@[simp]def Dt {ci ce:Ex}{f:A->A->gu->R A}:NO ci ce f τ a S=.of (ci τ S) (MK ce f a τ):=rfl
@[simp]def xG {co ci ce:Ex}{f:A->A->gu->R A}:KA co ci ce f τ S=RS.of (co τ S) (NO ci ce f τ):=rfl
abbrev RS.end (r:RS):R A:=match r with
 | .rt a d=>.ok a d
 | .nx _ d=>.ok .non d
 | .ex c d=>.ex c d
 | _=>.no
@[simp]def RS.ER:RS.end (.rt a S)=.ok a S:=rfl
@[simp]def RS.Eo:RS.end (.nx τ S)=.ok .non S:=rfl
@[simp]def RS.EL {c:Str}:RS.end (.ex c S)=.ex c S:=rfl
theorem rJ {N:ap}{m:Sm}{as:ae}:jK N m as S=RS.end (m (as++List.replicate (N.length-as.length) .unb) S):=by
 unfold jK RS.end;cases m (as++List.replicate (N.length-as.length) .unb) S<;>rfl
@[simp]def CG {i j:Int}:mh (.int i) (.int j) S=.ok (.int<|i+j) S:=rfl
@[simp]def ET {i j:Int}:aSub (.int i) (.int j) S=.ok (.int<|i-j) S:=rfl
@[simp]def EY {i j:Int}:Mv (.int i) (.int j) S=.ok (.int<|i+j) S:=rfl
theorem Fy{i j:Int}(h:-18446744073709551616<i)(h':i<18446744073709551616):yd (.int i) (.int j) S=.ok (.int<|i * j) S:=jz<|by unfold yS;simp;left;exact⟨by omega,by omega⟩
def Ct{i j:Int}(h:0<j)(h':j<1073741824):As (.int i) (.int j) S=.ok (.int<|i / j) S:=jz ⟨h,()⟩
def vR{i j:Int}(h:0<j):u5 (.int i) (.int j) S=.ok (.int<|i % j) S:=jz h
@[simp]def HL {i j:Int}:F5 (.int i) (.int j) S=.ok (.bl<|decide<|i<j) S:=rfl
@[simp]def HH {i j:Int}:Ht (.int i) (.int j) S=.ok (.bl<|decide<|i<=j) S:=rfl
@[simp]def Hj {i j:Int}:GN (.int i) (.int j) S=.ok (.bl<|decide<|j<i) S:=rfl
@[simp]def HK {i j:Int}:Lx (.int i) (.int j) S=.ok (.bl<|decide<|j<=i) S:=rfl
@[simp]def Hr {i j:Bool}:BD false (.bl i) (.bl j) S=.ok (.bl<|i == j) S:=rfl
@[simp]def EU {i j:Bool}:BD true (.bl i) (.bl j) S=.ok (.bl<|i != j) S:=rfl
@[simp]def DO {i:Int}:yc (.int i) S=.ok (.int<|-i) S:=rfl
@[simp]def EW {xs:ae}:jd (.tup xs) S=.ok (.int xs.length) S:=rfl
@[simp]def B3 {xs:ae}:jd (.frz xs) S=.ok (.int xs.length) S:=rfl
@[simp]def EA {n:Nat}:jd (.ref n) S=opt (gm S n) λxs=>.ok (.int xs.length) S:=rfl
@[simp]def CL {i:Int}:MY (.int i) S=.ok (.int<|if i<0 then -i else i) S:=rfl
@[simp]def yL {i j:Int}:w6 (.int i) (.int j) S=.ok (.int<|if j>i then j else i) S:=rfl
@[simp]def zq {i j:Int}:Ft (.int i) (.int j) S=.ok (.int<|if j<i then j else i) S:=rfl
@[simp]def Ai {i:Int}:zB (.int i) S=.ok (.int i) S:=rfl
@[simp]def Aa {i:Bool}:zB (.bl i) S=.ok (.int<|if i then 1 else 0) S:=rfl
@[simp]def tU {i j:Int}:u0 (.int i) (.int j) S=.ok (.rng i j) S:=rfl
@[simp]def HX {xs:ae}{i:Int}:j5 (.tup xs) (.int i) S=opt (j9 xs i) λx=>.ok x S:=rfl
@[simp]def Hf {xs:ae}{i:Int}:j5 (.frz xs) (.int i) S=opt (j9 xs i) λx=>.ok x S:=rfl
@[simp]def HD {n:Nat}{i:Int}:j5 (.ref n) (.int i) S=opt (gm S n) λxs=>opt (j9 xs i) λx=>.ok x S:=rfl
@[simp]def EB {n:Nat}{k:Int}:wJ (.ref n) (.int k) a S=opt (gm S n) λxs=>opt (uB xs.length k) λj=>.ok Unit.unit (S.set n<|.lst<|xs.set j a):=rfl
@[simp]def DB {n:Nat}{i:Int}:FO (.ref n) (.int i) S=opt (gm S n) λxs=>gd (0<=i) (opt (xs[i.toNat]?) λx=>.ok x S):=rfl
theorem BU{i j:Int}(h:uw i j):mF (.rng i j) S=.ok (.ref S.length) (S++[.lst<|(iw i j).map .int]):=jz h
@[simp]def Au {xs:ae}:mF (.tup xs) S=.ok (.ref S.length) (S++[.lst xs]):=rfl
@[simp]def zK {xs:ae}:mF (.frz xs) S=.ok (.ref S.length) (S++[.lst xs]):=rfl
@[simp]def zA {n:Nat}:mF (.ref n) S=opt (gm S n) λxs=>.ok (.ref S.length) (S++[.lst xs]):=rfl
@[simp]def w9 {xs:ae}:Fw (.tup xs) S=.ok (.tup xs) S:=rfl
@[simp]def vN {n:Nat}:Fw (.ref n) S=opt (gm S n) λxs=>.ok (.tup xs) S:=rfl
@[simp]def Ci {xs:ae}:Es (.tup xs) S=.ok (.tup xs.reverse) S:=rfl
@[simp]def D6 {n:Nat}:Es (.ref n) S=opt (gm S n) λxs=>.ok (.ref S.length) (S++[.lst xs.reverse]):=rfl
@[simp]def HN {n:Nat}{l u:Option Int}:L6 (.ref n) l u S=opt (gm S n) λxs=>.ok (.ref S.length) (S++[.lst<|Gu xs l u]):=rfl
@[simp]def sO {n:Nat}:jb (.ref n) [a] S=opt (gm S n) λxs=>gd (xs.length<sizeLine) (.ok .non<|S.set n<|.lst<|xs++[a]):=rfl
@[simp]def Dv {b:Bool}:A.KU (.bl b) S=some b:=rfl
@[simp]def zV {i:Int}:A.KU (.int i) S=some (i != 0):=rfl
theorem Ib{o:O}:(S++[o])[S.length]?=some o:=by simp
@[simp]def gJ {xs:ae}:gm (S++[.lst xs]) S.length=some xs:=p8 Ib
theorem gZ{o:O}{n:Nat}(h:gm S n=some xs):gm (S++[o]) n=some xs:=by
 have h':=gF h;exact p8<|by rw[aO (aI.mp h').1];exact h'
def jN{n:Nat}(h:gm S n=some xs):n<S.length:=(aI.mp<|gF h).1
def jC{n:Nat}(h:n<S.length):gm (S.set n<|.lst ys) n=some ys:=p8<|bO h
def iA{n:Nat}(h:n≠m):gm (S.set n<|.lst ys) m=gm S m:=by unfold gm;rw[bM h]
def jS{xs:ae}{i:Int}{k:Nat}{x:A}(h:i=k)(hx:xs[k]?=some x):j9 xs i=some x:=by rw[h];exact Gn hx
def uE{n:Nat}{i:Int}{k:Nat}(h:i=k)(hk:k<n):uB n i=some k:=by
 subst h;unfold uB;rw[aX (),aX ()];simp
end
structure Kp (b:Nat->Prop)(S S':gu):Prop where
 len:S.length<=S'.length
 obj:∀(n:Nat) (o:O),¬b n->S[n]?=some o->S'[n]?=some o
meta abbrev kX:=Kp λ_=>False
def Kp.lst{b:Nat->Prop}(h:Kp b S S')(n:Nat)(xs:ae)(hb:¬b n)(e:gm S n=some xs):gm S' n=some xs:=p8<|h.obj n _ hb<|gF e
def Kp.refl{b:Nat->Prop}:Kp b S S:=⟨aN _,λ_ _ _ h=>h⟩
def Kp.trans{b:Nat->Prop}(h:Kp b S S1)(h':Kp b S1 S2):Kp b S S2:=⟨b6 h.len h'.len,λn xs hb e=>h'.obj n xs hb<|h.obj n xs hb e⟩
def uG{S:gu}{n:Nat}(e:S[n]?=some o):n<S.length:=(aI.mp e).1
def Kp.lay{b:Nat->Prop}{o:O}(h:Kp b S S1):Kp b S (S1++[o]):=⟨b6 h.len<|by simp,λn xs hb e=>by
 have:=h.obj n xs hb e;rw[aO<|uG this];exact this⟩
def Kp.KW{b:Nat->Prop}{S S1:gu}(h:Kp b S S1)(hm:b m\/S.length<=m):Kp b S (S1.set m o):=⟨by rw[bA];exact h.len,λn xs hb e=>by
 have:m≠n:=λz=>by
  subst z
  rcases hm with z|z
  ·exact hb z
  ·exact absurd (uG e) ()
 rw[bM this];exact h.obj n xs hb e⟩
def Kp.set{b:Nat->Prop}{S S1:gu}(h:Kp b S S1)(hm:b m\/S.length<=m):Kp b S (S1.set m<|.lst ys):=h.KW hm
def Kp.mono{b c:Nat->Prop}{S:gu}(h:Kp b S S1)(hb:∀n,n<S.length->b n->c n):Kp c S S1:=⟨h.len,λn xs hc e=>h.obj n xs (λz=>hc<|hb n (uG e) z) e⟩
def Kp.of0{b:Nat->Prop}(h:kX S S1):Kp b S S1:=h.mono λ_ _ z=>z.elim
def Kp.old{b c:Nat->Prop}{S:gu}(h:Kp b S S1)(h':Kp c S1 S2)(hc:∀n,n<S.length->¬b n->¬c n):Kp b S S2:=⟨b6 h.len h'.len,λn xs hb e=>h'.obj n xs (hc n (uG e) hb)<|h.obj n xs hb e⟩
theorem sA{t:Te}{c:Sm}(Inv:ae->gu->Prop)(μ:ae->gu->Nat)(Post:RS->Prop)
  (h:∀τ S,Inv τ S->(∃S1,t τ S=.ok false S1/\Post (.nx τ S1))\/(∃S1,t τ S=.ok true S1/\((∃τ' S',c τ S1=.nx τ' S'/\Inv τ' S'/\μ τ' S'<μ τ S)\/(∃a S',c τ S1=.rt a S'/\Post (.rt a S'))))) :
  ∀n τ S,Inv τ S->μ τ S<n->Post (jF t c n τ S)
 | 0,_,_,_,hn=>absurd hn (cj _)
 | n+1,τ,S,f,hn=>by
  unfold jF
  rcases h τ S f with⟨S1,e,q⟩|⟨S1,e,⟨τ',S',e2,d,hm⟩|⟨a,S',e2,q⟩⟩
  ·rw[e];exact q
  ·rw[e];show Post (match c τ S1 with
    | .nx τ' S'=>jF t c n τ' S'
    | .ct τ' S'=>jF t c n τ' S'
    | .bk τ' S'=>.nx τ' S'
    | r=>r)
   rw[e2];exact sA Inv μ Post h n τ' S' d ()
  ·rw[e];show Post (match c τ S1 with
    | .nx τ' S'=>jF t c n τ' S'
    | .ct τ' S'=>jF t c n τ' S'
    | .bk τ' S'=>.nx τ' S'
    | r=>r)
   rw[e2];exact q
theorem uU{s:Src}{g:Tg}{c:Sm}(Inv:Nat->ae->gu->Prop)(Post:RS->Prop)
  (step:∀i τ S,i<s.k->Inv i τ S->∃x τ1 S1,s.get i S=some x/\g x τ S=.ok τ1 S1/\((∃τ' S',c τ1 S1=.nx τ' S'/\Inv (i+1) τ' S')\/(∃a S',c τ1 S1=.rt a S'/\Post (.rt a S'))))
  (fin:∀τ S,Inv s.k τ S->s.fin S=true/\Post (.nx τ S)):∀k i τ S,k+i=s.k->Inv i τ S->Post (kZ s g c k i τ S)
 | 0,i,τ,S,hk,hi=>by
  have:i=s.k:=()
  subst this;obtain⟨hf,q⟩:=fin τ S hi;unfold kZ;rw[aX hf];exact q
 | k+1,i,τ,S,hk,hi=>by
  obtain⟨x,τ1,S1,hx,hg,h⟩:=step i τ S () hi;unfold kZ;rw[hx];show Post (RS.of (g x τ S) λτ1 S1=>match c τ1 S1 with
   | .nx τ' S'=>kZ s g c k (i+1) τ' S'
   | .ct τ' S'=>kZ s g c k (i+1) τ' S'
   | .bk τ' S'=>.nx τ' S'
   | r=>r)
  rw[hg];show Post (match c τ1 S1 with
   | .nx τ' S'=>kZ s g c k (i+1) τ' S'
   | .ct τ' S'=>kZ s g c k (i+1) τ' S'
   | .bk τ' S'=>.nx τ' S'
   | r=>r)
  rcases h with⟨τ',S',e,d⟩|⟨a,S',e,q⟩
  ·rw[e];exact uU Inv Post step fin k (i+1) τ' S' () d
  ·rw[e];exact q
def lD{lo hi:Int}{c:Sm}{src:Ic}{τ:ae}(hs:src τ S=.ok (lW lo hi) S1)(Inv:Nat->ae->gu->Prop)(Post:RS->Prop)(h0:Inv 0 τ S1)
  (step:∀(i:Nat) τ S,(i:Int)<hi-lo->Inv i τ S->(∃τ' S',c (τ.set j<|.int<|lo+i) S=.nx τ' S'/\Inv (i+1) τ' S')\/(∃a S',c (τ.set j<|.int<|lo+i) S=.rt a S'/\Post (.rt a S')))
  (fin:∀τ S,Inv (hi-lo).toNat τ S->Post (.nx τ S)):Post (lU src (gW j) c τ S):=by
 unfold lU;rw[hs];refine uU (s:=lW lo hi) Inv Post (λi τ S d h=>?_) (λτ S h=>⟨rfl,fin τ S h⟩) _ 0 τ S1 rfl h0;have d:i<(hi-lo).toNat:=d;exact⟨.int<|lo+i,_,S,aX d,rfl,step i τ S (by omega) h⟩
def AD{n:Nat}{xs:ae}{g:Tg}{c:Sm}{src:Ic}(hs:src τ S=.ok (g8 n xs.length) S1)(Inv:Nat->ae->gu->Prop)(Post:RS->Prop)(h0:Inv 0 τ S1)(hl:∀i τ S,Inv i τ S->gm S n=some xs)
  (step:∀(i:Nat) x τ S,xs[i]?=some x->Inv i τ S->∃τ1 S1,g x τ S=.ok τ1 S1/\((∃τ' S',c τ1 S1=.nx τ' S'/\Inv (i+1) τ' S')\/(∃a S',c τ1 S1=.rt a S'/\Post (.rt a S'))))
  (fin:∀τ S,Inv xs.length τ S->Post (.nx τ S)):Post (lU src g c τ S):=by
 unfold lU;rw[hs];refine uU (s:=g8 n xs.length) Inv Post (λi τ S d h=>?_) (λτ S h=>⟨?_,fin τ S h⟩) _ 0 τ S1 rfl h0
 ·have d:i<xs.length:=d;obtain⟨τ1,S1,e,q⟩:=step i xs[i] τ S (aF d) h;exact⟨xs[i],τ1,S1,by show(gm S n).bind _=_;rw[hl i τ S h];exact aF d,e,q⟩
 ·show(match gm S n with
   | some ys=>decide (ys.length<=xs.length)
   | none=>false)=true
  rw[hl _ τ S h];exact a_<|aN _
@[simp]def jB {c:Ex}{τ:ae}{S S1:gu}{j:Int}(h:c τ S=.ok (.int j) S1)(hb:bnd j):j_ c τ S=.ok (lW 0 j) S1:=by
 unfold j_;rw[h];exact jz hb
def vL{c d:Ex}{i j:Int}(h:c τ S=.ok (.int i) S1)(h':d τ S1=.ok (.int j) S2)(hb:bnd i)(hb':bnd j):qP c d τ S=.ok (lW i j) S2:=by
 unfold qP;rw[h];show(d τ S1).bind _=_;rw[h'];exact jz ⟨hb,hb'⟩
def jM{c:Ex}{n:Nat}{xs:ae}(h:c τ S=.ok (.ref n) S1)(hl:gm S1 n=some xs):jq c τ S=.ok (g8 n xs.length) S1:=by
 unfold jq;rw[h];show opt (gm S1 n) _=_;rw[hl];rfl
theorem oq{s:Src}{g:Tg}{t:Te}{e:Ex}{P:gu->Prop}{T:ae->Prop}(it:Nat->A)(p:Nat->Bool)(f:Nat->A)
  (hget:∀i S,i<s.k->P S->s.get i S=some (it i)) (hfin:∀S,P S->s.fin S=true)
  (step:∀i τ S,i<s.k->T τ->P S->∃τ1 S1 S2,g (it i) τ S=.ok τ1 S1/\t τ1 S1=.ok (p i) S2/\T τ1/\(p i=false->P S2)/\(p i=true->∃S3,e τ1 S2=.ok (f i) S3/\P S3)) :
  ∀k i τ S,k+i=s.k->T τ->P S->∃S',iU s g t e k i τ S=.ok (((List.range' i k).filter p).map f) S'/\P S'
 | 0,i,τ,S,hk,hT,hP=>⟨S,by unfold iU;rw[aX<|hfin S hP];rfl,hP⟩
 | k+1,i,τ,S,hk,hT,hP=>by
  obtain⟨τ1,S1,S2,hg,z,d,C,j⟩:=step i τ S (by omega) hT hP;unfold iU;rw[hget i S (by omega) hP,ie,hg,R.gY,z,R.gY,List.range'_succ,eV]
  cases hp:p i with
  | false=>
   obtain⟨S',h1,h2⟩:=oq it p f hget hfin step k (i+1) τ1 S2 (by omega) d<|C hp;exact⟨S',by simpa using h1,h2⟩
  | true=>
   obtain⟨S3,B,m⟩:=j hp;obtain⟨S',h1,h2⟩:=oq it p f hget hfin step k (i+1) τ1 S3 (by omega) d m;refine⟨S',?_,h2⟩
   skip
   rw[B,R.gY,h1];rfl
def qv{s:Src}{src:Ic}{t:Te}{e:Ex}{S1:gu}(hs:src τ S=.ok s S1)(it:Nat->A)(p:Nat->Bool)(f:Nat->A)(hget:∀i,i<s.k->s.get i S1=some (it i))(hfin:s.fin S1=true)
  (ht:∀i,i<s.k->t (it i::jJ cap τ) S1=.ok (p i) S1) (he:∀i,i<s.k->p i=true->e (it i::jJ cap τ) S1=.ok (f i) S1) (hl:s.k<=16777216) :
  iI (none::cap) src (gW 0) t e τ S=.ok (.ref S1.length) (S1++[.lst<|((List.range s.k).filter p).map f]):=by
 unfold iI;rw[hs,R.iV];obtain⟨m,h1,h2⟩:=oq (s:=s) (g:=gW 0) (t:=t) (e:=e) (P:=λS=>S=S1) (T:=λd=>∃y,d=y::jJ cap τ) it p f (λi S j h=>by subst h;exact hget i j) (λS h=>by subst h;exact hfin)
  (λi d S j ⟨y,hy⟩ h=>by
   subst h hy;exact⟨it i::jJ cap τ,S,S,rfl,ht i j,⟨_,rfl⟩,λ_=>rfl,λhp=>⟨S,he i j hp,rfl⟩⟩) s.k 0 (jJ (none::cap) τ) S1 rfl ⟨_,rfl⟩ rfl
 subst h2;rw[h1,R.gY,List.range_eq_range'];refine iz ?_;rw[aH];refine b6 (List.length_filter_le _ _) ?_;rw[ee];exact hl
def qB{α β:Type}(xs:List α)(p:α->Bool)(f:α->β):∀(d:α) ,(((List.range xs.length).filter λi=>p<|xs.getD i d).map λi=>f<|xs.getD i d)=(xs.filter p).map f:=by
 intro d
 induction xs with
 | nil=>rfl
 | cons x xs g=>
  rw[bB,eG,eV,eV];have e:((List.filter (λi=>p<|(x::xs).getD i d)<|List.map Nat.succ<|List.range xs.length).map λi=>f<|(x::xs).getD i d)=(xs.filter p).map f:=by
   rw[d8,bV];rw[<- g];rfl
  show List.map _ (if p x=true then _ else _)=List.map f (if p x=true then _ else _);by_cases hp:p x=true
  ·rw[aX hp,aX hp,bH,bH,e];rfl
  ·rw[aZ hp,aZ hp,e]
def xC{lo hi:Int}{src:Ic}{t:Te}{e:Ex}{S1:gu}(hs:src τ S=.ok (lW lo hi) S1)(p:Int->Bool)(f:Int->A)
  (ht:∀k,lo<=k->k<hi->t (.int k::jJ cap τ) S1=.ok (p k) S1) (he:∀k,lo<=k->k<hi->p k=true->e (.int k::jJ cap τ) S1=.ok (f k) S1) (hl:(hi-lo).toNat<=16777216) :
  iI (none::cap) src (gW 0) t e τ S=.ok (.ref S1.length) (S1++[.lst<|((iw lo hi).filter p).map f]):=by
 rw[qv hs (λi=>.int<|lo+i) (λi=>p<|lo+i) (λi=>f<|lo+i) (λi d=>aX d) rfl (λi d=>ht _ () (by have:i<(hi-lo).toNat:=d;lia)) (λi d=>he _ () (by have:i<(hi-lo).toNat:=d;lia)) hl];unfold iw;rw[d8,bV];rfl
@[simp]def Du {cap:List<|bj}{τ:ae}:jJ (none::cap) τ=.unb::jJ cap τ:=rfl
@[simp]def DN {cap:List<|bj}{τ:ae}{j:Nat}:jJ (some j::cap) τ=τ.getD j .unb::jJ cap τ:=rfl
@[simp]def wH {τ:ae}:jJ [] τ=[]:=rfl
theorem y_{x:A}:j9 (x::xs) 0=some x:=jS (k:=0) rfl rfl
def G8{x:A}:j9 (x::y::xs) 1=some y:=jS (k:=1) rfl rfl
def rF{ns:ag}{i:Int}{k:Nat}{x:Int}(h:i=k)(hx:ns[k]?=some x):j9 (ns.map A.int) i=some (.int x):=jS h<|by rw[aS,hx];rfl
def iZ{j:Int}(h:-4611686018427387904<=j)(h':j<4611686018427387904):bnd j:=⟨(),()⟩
def Ck{i j:Int}(h1:-1000000<=i)(h2:i<=1000000)(h3:-1000000<=j)(h4:j<=1000000)(h5:j-i<=1000):uw i j:=⟨⟨(),(),(),()⟩,()⟩
theorem ints_map:∀(ns:ag),A.ints (ns.map .int)=some ns
 | []=>rfl
 | n::ns=>by show(A.ints<|ns.map .int).map (n::·)=_;rw[ints_map ns];rfl
theorem qz{n:Nat}:∀(xs ys:ag),nZ (oi S<|n+1) (xs.map .int) (ys.map .int)=some (decide<|xs=ys)
 | [],[]=>rfl
 | [],_::_=>rfl
 | _::_,[]=>rfl
 | x::xs,y::ys=>by
  skip
  skip
  show Option.map _ (nZ (oi S<|n+1) (xs.map .int)<|ys.map .int)=_;rw[qz xs ys]
  skip
  by_cases h1:x=y<;>by_cases h2:xs=ys<;>simp[h1,h2]
@[simp]def HW {S:gu}{x y:Bool}:qN false (.bl x) (.bl y) S=.ok (.bl<|x == y) S:=rfl
@[simp]def G7 {S:gu}{x y:Bool}:qN true (.bl x) (.bl y) S=.ok (.bl<|!(x == y)) S:=rfl
@[simp]def Hl {S:gu}{x y:Int}:qN false (.int x) (.int y) S=.ok (.bl<|x == y) S:=rfl
@[simp]def HU {S:gu}{x y:Int}:qN true (.int x) (.int y) S=.ok (.bl<|!(x == y)) S:=rfl
@[simp]def z_ {S:gu}:BD false .non .non S=.ok (.bl true) S:=rfl
@[simp]def zO {S:gu}{xs:ae}:BD false (.tup xs) .non S=.ok (.bl false) S:=rfl
@[simp]def zS {S:gu}{n:Nat}:BD false (.ref n) .non S=.ok (.bl false) S:=rfl
@[simp]def wN {S:gu}:BD true .non .non S=.ok (.bl false) S:=rfl
@[simp]def wX {S:gu}{xs:ae}:BD true (.tup xs) .non S=.ok (.bl true) S:=rfl
@[simp]def xj {S:gu}{n:Nat}:BD true (.ref n) .non S=.ok (.bl true) S:=rfl
@[simp]def A4 {S:gu}{x:A}{c:String}:rj x (.ty c) S=opt (x.kd S) λk=>opt (qY k c) λb=>.ok (.bl b) S:=rfl
@[simp]def Hq {S:gu}{b:Bool}:A.kd (.bl b) S=some .bl:=rfl
@[simp]def E8 {S:gu}{b:Int}:A.kd (.int b) S=some .int:=rfl
@[simp]def D4 {S:gu}{b:ae}:A.kd (.tup b) S=some .tup:=rfl
@[simp]def Cc {S:gu}:A.kd .non S=some .non:=rfl
@[simp]def CT {S:gu}{b:Str}:A.kd (.str b) S=some .str:=rfl
@[simp]def CS {S:gu}{n:Nat}:A.kd (.ref n) S=(gm S n).map λ_=>.lst:=rfl
@[simp]def DS {S:gu}:newL [] S=.ok (.ref S.length) (S++[.lst []]):=iz<|by simp
@[simp]def B8 {S:gu}{x0:A}:newL [x0] S=.ok (.ref S.length) (S++[.lst [x0]]):=iz<|by simp
@[simp]def B4 {S:gu}{x0 x1:A}:newL [x0,x1] S=.ok (.ref S.length) (S++[.lst [x0,x1]]):=iz<|by simp
@[simp]def Ff {S:gu}{x0 x1 x2:A}:newL [x0,x1,x2] S=.ok (.ref S.length) (S++[.lst [x0,x1,x2]]):=iz<|by simp
@[simp]def DA {S:gu}{x0 x1 x2 x3:A}:newL [x0,x1,x2,x3] S=.ok (.ref S.length) (S++[.lst [x0,x1,x2,x3]]):=iz<|by simp
@[simp]def C_ {S:gu}{x0 x1 x2 x3 x4:A}:newL [x0,x1,x2,x3,x4] S=.ok (.ref S.length) (S++[.lst [x0,x1,x2,x3,x4]]):=iz<|by simp
@[simp]def EK {S:gu}{x0 x1 x2 x3 x4 x5:A}:newL [x0,x1,x2,x3,x4,x5] S=.ok (.ref S.length) (S++[.lst [x0,x1,x2,x3,x4,x5]]):=iz<|by simp
@[simp]def E9 {S:gu}{x0 x1 x2 x3 x4 x5 x6:A}:newL [x0,x1,x2,x3,x4,x5,x6] S=.ok (.ref S.length) (S++[.lst [x0,x1,x2,x3,x4,x5,x6]]):=iz<|by simp
@[simp]def CV {S:gu}{x0 x1 x2 x3 x4 x5 x6 x7:A}:newL [x0,x1,x2,x3,x4,x5,x6,x7] S=.ok (.ref S.length) (S++[.lst [x0,x1,x2,x3,x4,x5,x6,x7]]):=iz<|by simp
@[simp]def ES {S:gu}{x0 x1 x2 x3 x4 x5 x6 x7 x8:A}:newL [x0,x1,x2,x3,x4,x5,x6,x7,x8] S=.ok (.ref S.length) (S++[.lst [x0,x1,x2,x3,x4,x5,x6,x7,x8]]):=iz<|by simp
@[simp]def A2 {S:gu}{x0 x1 x2 x3 x4 x5 x6 x7 x8 x9:A}:newL [x0,x1,x2,x3,x4,x5,x6,x7,x8,x9] S=.ok (.ref S.length) (S++[.lst [x0,x1,x2,x3,x4,x5,x6,x7,x8,x9]]):=iz<|by simp
theorem uJ{α:Type}{n:Nat}{r:R α}(h:n<=16777216):gd (n<=sizeLine) r=r:=jz<|by rw[cG];exact h
def mz{α:Type}{n:Nat}{r:R α}(h:n<16777216):gd (n<sizeLine) r=r:=jz<|by rw[cG];exact h
def HB {x:A}{xs:ae}:(x::xs).getD 0 .unb=x:=rfl
def Hx {x:A}{xs:ae}{n:Nat}:(x::xs).getD (n+1) .unb=xs.getD n .unb:=rfl
def KL {x y:A}{xs:ae}:(x::xs).set 0 y=y::xs:=rfl
def sets {x y:A}{xs:ae}{n:Nat}:(x::xs).set (n+1) y=x::xs.set n y:=rfl
def rep0 {x:A}:List.replicate 0 x=[]:=rfl
def reps {x:A}{n:Nat}:List.replicate (n+1) x=x::List.replicate n x:=rfl
def Ll {x:A}{xs ys:ae}:(x::xs)++ys=x::(xs++ys):=rfl
def KN {ys:ae}:[]++ys=ys:=rfl
def LW{S:gu}{n:Nat}{xs ys:ae}(h:gm S n=some xs)(h':gm S m=some ys)(hl:xs.length+ys.length<=16777216):mh (.ref n) (.ref m) S=.ok (.ref S.length) (S++[.lst<|xs++ys]):=by
 show opt (gm S n) _=_;rw[h,ie,h',ie];exact jz<|by rw[cG];exact hl
abbrev uV (x:A)(S:gu):R A:=bif x.jL then .no else .ok x S
def CJ {xs:ae}{S:gu}:uV (.tup xs) S=.ok (.tup xs) S:=rfl
def DF {xs:ae}{S:gu}:uV (.frz xs) S=.ok (.frz xs) S:=rfl
def B6 {i:Int}{S:gu}:uV (.int i) S=.ok (.int i) S:=rfl
def Hh {b:Bool}{S:gu}:uV (.bl b) S=.ok (.bl b) S:=rfl
def Eh {s:Str}{S:gu}:uV (.str s) S=.ok (.str s) S:=rfl
def Ef {n:Nat}{S:gu}:uV (.ref n) S=.ok (.ref n) S:=rfl
def CI  {S:gu}:uV (.non) S=.ok (.non) S:=rfl
def B7 {i j:Int}{S:gu}:uV (.rng i j) S=.ok (.rng i j) S:=rfl
def Dq {s:Str}{S:gu}:uV (.exn s) S=.ok (.exn s) S:=rfl
def Nu {x0:A}{xs:ae}{S:gu}:gk 0 (x0::xs) S=uV x0 S:=ki
def NU {x0 x1:A}{xs:ae}{S:gu}:gk 1 (x0::x1::xs) S=uV x1 S:=ki
def NN {x0 x1 x2:A}{xs:ae}{S:gu}:gk 2 (x0::x1::x2::xs) S=uV x2 S:=ki
def NV {x0 x1 x2 x3:A}{xs:ae}{S:gu}:gk 3 (x0::x1::x2::x3::xs) S=uV x3 S:=ki
def NY {x0 x1 x2 x3 x4:A}{xs:ae}{S:gu}:gk 4 (x0::x1::x2::x3::x4::xs) S=uV x4 S:=ki
def ND {x0 x1 x2 x3 x4 x5:A}{xs:ae}{S:gu}:gk 5 (x0::x1::x2::x3::x4::x5::xs) S=uV x5 S:=ki
def NK {x0 x1 x2 x3 x4 x5 x6:A}{xs:ae}{S:gu}:gk 6 (x0::x1::x2::x3::x4::x5::x6::xs) S=uV x6 S:=ki
def N3 {x0 x1 x2 x3 x4 x5 x6 x7:A}{xs:ae}{S:gu}:gk 7 (x0::x1::x2::x3::x4::x5::x6::x7::xs) S=uV x7 S:=ki
def NC {x0 x1 x2 x3 x4 x5 x6 x7 x8:A}{xs:ae}{S:gu}:gk 8 (x0::x1::x2::x3::x4::x5::x6::x7::x8::xs) S=uV x8 S:=ki
def NB {a x0:A}{xs:ae}{S:gu}:gW 0 a (x0::xs) S=.ok (a::xs) S:=rfl
def N2 {a x0 x1:A}{xs:ae}{S:gu}:gW 1 a (x0::x1::xs) S=.ok (x0::a::xs) S:=rfl
def NQ {a x0 x1 x2:A}{xs:ae}{S:gu}:gW 2 a (x0::x1::x2::xs) S=.ok (x0::x1::a::xs) S:=rfl
def Ny {a x0 x1 x2 x3:A}{xs:ae}{S:gu}:gW 3 a (x0::x1::x2::x3::xs) S=.ok (x0::x1::x2::a::xs) S:=rfl
def Nx {a x0 x1 x2 x3 x4:A}{xs:ae}{S:gu}:gW 4 a (x0::x1::x2::x3::x4::xs) S=.ok (x0::x1::x2::x3::a::xs) S:=rfl
def Nt {a x0 x1 x2 x3 x4 x5:A}{xs:ae}{S:gu}:gW 5 a (x0::x1::x2::x3::x4::x5::xs) S=.ok (x0::x1::x2::x3::x4::a::xs) S:=rfl
def NR {a x0 x1 x2 x3 x4 x5 x6:A}{xs:ae}{S:gu}:gW 6 a (x0::x1::x2::x3::x4::x5::x6::xs) S=.ok (x0::x1::x2::x3::x4::x5::a::xs) S:=rfl
def Nr {a x0 x1 x2 x3 x4 x5 x6 x7:A}{xs:ae}{S:gu}:gW 7 a (x0::x1::x2::x3::x4::x5::x6::x7::xs) S=.ok (x0::x1::x2::x3::x4::x5::x6::a::xs) S:=rfl
def NI {a x0 x1 x2 x3 x4 x5 x6 x7 x8:A}{xs:ae}{S:gu}:gW 8 a (x0::x1::x2::x3::x4::x5::x6::x7::x8::xs) S=.ok (x0::x1::x2::x3::x4::x5::x6::x7::a::xs) S:=rfl
def gT:type_of% (anI @R.iV<|anI @R.Av<|anI @R.gY<|anI @RS.of_ok<|anI @RS.Hv<|anI @ie<|anI @zE<|anI @Nu<|anI @NU<|anI @NN<|anI @NV<|anI @NY<|anI @ND<|anI @NK<|anI @N3<|anI @NC<|anI @CJ<|anI @DF<|anI @B6<|anI @Hh<|anI @Eh<|anI @Ef<|anI @CI<|anI @B7<|anI @Dq<|anI @zZ<|anI @AH<|anI @zf<|anI @Cm<|anI @AX<|anI @yV<|anI @zI<|anI @zc<|anI @zX<|anI @HG<|anI @yP<|anI @Dn<|anI @zP<|anI @Hi<|anI @Dy<|anI @yW<|anI @y9<|anI @CM<|anI @AY<|anI @Ae<|anI @z7<|anI @Eu<|anI @EJ<|anI @zb<|anI @EH<|anI @wD<|anI @yR<|anI @DK<|anI @yM<|anI @wO<|anI @zg<|anI @zl<|anI @wZ<|anI @Co<|anI @Eg<|anI @Hw<|anI @HS<|anI @Ep<|anI @wg<|anI @zU<|anI @vU<|anI @ED<|anI @AM<|anI @lst?_ref<|anI @RS.Dr<|anI @RS.CZ<|anI @RS.DG<|anI @RS.EC<|anI @RS.EN<|anI @AA<|anI @Ay<|anI @tY<|anI @we<|anI @wc<|anI @yQ<|anI @xH<|anI @C9<|anI @zh<|anI @NB<|anI @N2<|anI @NQ<|anI @Ny<|anI @Nx<|anI @Nt<|anI @NR<|anI @Nr<|anI @NI<|anI @Ea<|anI @B_<|anI @CW<|anI @C7<|anI @Cr<|anI @AZ<|anI @yY<|anI @xG<|anI @RS.ER<|anI @RS.Eo<|anI @RS.EL<|anI @CG<|anI @ET<|anI @EY<|anI @HL<|anI @HH<|anI @Hj<|anI @HK<|anI @Hr<|anI @EU<|anI @DO<|anI @EW<|anI @B3<|anI @EA<|anI @CL<|anI @yL<|anI @zq<|anI @Ai<|anI @Aa<|anI @tU<|anI @HX<|anI @Hf<|anI @HD<|anI @EB<|anI @DB<|anI @Au<|anI @zK<|anI @zA<|anI @w9<|anI @vN<|anI @Ci<|anI @D6<|anI @HN<|anI @sO<|anI @Dv<|anI @zV<|anI @gJ<|anI @Du<|anI @DN<|anI @wH<|anI @HW<|anI @G7<|anI @Hl<|anI @HU<|anI @z_<|anI @zO<|anI @zS<|anI @wN<|anI @wX<|anI @xj<|anI @A4<|anI @Hq<|anI @E8<|anI @D4<|anI @Cc<|anI @CT<|anI @CS<|anI @DS<|anI @B8<|anI @B4<|anI @Ff<|anI @DA<|anI @C_<|anI @EK<|anI @E9<|anI @CV<|anI @ES<|anI @A2<|anI @HB<|anI @Hx<|anI @KL<|anI @sets<|anI @rep0<|anI @reps<|anI @Ll<|anI @KN<|anI @rJ<|anI @yT<|anI @CQ<|anI @Er<|anI @G9<|anI @G5<|anI @DL<|anI @Cf<|anI @uq<|anI @wA<|anI @Ek<|anI @AJ<|anI @D9<|anI @An<|anI @E7<|anI @HR<|anI @Hy<|anI @Ad<|anI @zC<|anI @Cb<|anI @wM<|anI @yZ<|anI @Dt<|anI @CP<|anI @EI<|anI @DM<|@Fi):=anI @R.iV<|anI @R.Av<|anI @R.gY<|anI @RS.of_ok<|anI @RS.Hv<|anI @ie<|anI @zE<|anI @Nu<|anI @NU<|anI @NN<|anI @NV<|anI @NY<|anI @ND<|anI @NK<|anI @N3<|anI @NC<|anI @CJ<|anI @DF<|anI @B6<|anI @Hh<|anI @Eh<|anI @Ef<|anI @CI<|anI @B7<|anI @Dq<|anI @zZ<|anI @AH<|anI @zf<|anI @Cm<|anI @AX<|anI @yV<|anI @zI<|anI @zc<|anI @zX<|anI @HG<|anI @yP<|anI @Dn<|anI @zP<|anI @Hi<|anI @Dy<|anI @yW<|anI @y9<|anI @CM<|anI @AY<|anI @Ae<|anI @z7<|anI @Eu<|anI @EJ<|anI @zb<|anI @EH<|anI @wD<|anI @yR<|anI @DK<|anI @yM<|anI @wO<|anI @zg<|anI @zl<|anI @wZ<|anI @Co<|anI @Eg<|anI @Hw<|anI @HS<|anI @Ep<|anI @wg<|anI @zU<|anI @vU<|anI @ED<|anI @AM<|anI @lst?_ref<|anI @RS.Dr<|anI @RS.CZ<|anI @RS.DG<|anI @RS.EC<|anI @RS.EN<|anI @AA<|anI @Ay<|anI @tY<|anI @we<|anI @wc<|anI @yQ<|anI @xH<|anI @C9<|anI @zh<|anI @NB<|anI @N2<|anI @NQ<|anI @Ny<|anI @Nx<|anI @Nt<|anI @NR<|anI @Nr<|anI @NI<|anI @Ea<|anI @B_<|anI @CW<|anI @C7<|anI @Cr<|anI @AZ<|anI @yY<|anI @xG<|anI @RS.ER<|anI @RS.Eo<|anI @RS.EL<|anI @CG<|anI @ET<|anI @EY<|anI @HL<|anI @HH<|anI @Hj<|anI @HK<|anI @Hr<|anI @EU<|anI @DO<|anI @EW<|anI @B3<|anI @EA<|anI @CL<|anI @yL<|anI @zq<|anI @Ai<|anI @Aa<|anI @tU<|anI @HX<|anI @Hf<|anI @HD<|anI @EB<|anI @DB<|anI @Au<|anI @zK<|anI @zA<|anI @w9<|anI @vN<|anI @Ci<|anI @D6<|anI @HN<|anI @sO<|anI @Dv<|anI @zV<|anI @gJ<|anI @Du<|anI @DN<|anI @wH<|anI @HW<|anI @G7<|anI @Hl<|anI @HU<|anI @z_<|anI @zO<|anI @zS<|anI @wN<|anI @wX<|anI @xj<|anI @A4<|anI @Hq<|anI @E8<|anI @D4<|anI @Cc<|anI @CT<|anI @CS<|anI @DS<|anI @B8<|anI @B4<|anI @Ff<|anI @DA<|anI @C_<|anI @EK<|anI @E9<|anI @CV<|anI @ES<|anI @A2<|anI @HB<|anI @Hx<|anI @KL<|anI @sets<|anI @rep0<|anI @reps<|anI @Ll<|anI @KN<|anI @rJ<|anI @yT<|anI @CQ<|anI @Er<|anI @G9<|anI @G5<|anI @DL<|anI @Cf<|anI @uq<|anI @wA<|anI @Ek<|anI @AJ<|anI @D9<|anI @An<|anI @E7<|anI @HR<|anI @Hy<|anI @Ad<|anI @zC<|anI @Cb<|anI @wM<|anI @yZ<|anI @Dt<|anI @CP<|anI @EI<|anI @DM<|@Fi
def bools:(∀b:Bool,cond false b b=b)/\(∀(α:Type) (x y:α),cond false x y=y)/\(∀(α:Type) (x y:α),cond true x y=x):=⟨λ_=>rfl,λ_ _ _=>rfl,λ_ _ _=>rfl⟩
def kT:(∀(x:Str) (xs:ap),(x::xs).length=xs.length+1)/\([]:ap).length=0/\(∀(x:A) (xs:ae),(x::xs).length=xs.length+1)/\([]:ae).length=0:=⟨λ_ _=>rfl,rfl,λ_ _=>rfl,rfl⟩
section
variable {τ:ae}{S:gu}
def Aj {f:ae->gu->R A}{d:nu}:Ni f d τ S=(d τ S).bind f:=rfl
abbrev NS (c:Str):Unit->gu->RS:=λ_ S1=>.ex c S1
def Dg {c:Str}{u:Unit}:NS c u S=.ex c S:=rfl
def uz {c:Str}{ps:List<|Str ⊕ Ex}:Ii c ps τ S=RS.of (GO ps τ S) (NS c):=rfl
def Ak:GO [] τ S=.ok Unit.unit S:=rfl
def A6 {x:Str}{ps:List<|Str ⊕ Ex}:GO (.inl x::ps) τ S=GO ps τ S:=rfl
abbrev Oe (ps:List<|Str ⊕ Ex)(τ:ae):A->gu->R Unit:=λv S1=>match v with
 | .int i=>gd (i.natAbs.log2<64) (GO ps τ S1)
 | _=>.no
def zY {e:Ex}{ps:List<|Str ⊕ Ex}:GO (.inr e::ps) τ S=(e τ S).bind (Oe ps τ):=rfl
abbrev RS.try (i n:Nat)(cs:ap)(d:Sm):RS->RS
 | .ex x S1=>if x∈cs then Ho i (d ((List.replicate n .unb).set i<|.exn x) S1)else .no
 | r=>r
def A3 {i n:Nat}{cs:ap}{c d:Sm}:LV i n cs c d τ S=RS.try i n cs d (c τ S):=by
 unfold LV RS.try;cases c τ S<;>rfl
def DW {i n:Nat}{cs:ap}{d:Sm}:RS.try i n cs d (.nx τ S)=.nx τ S:=rfl
def CH {i n:Nat}{cs:ap}{d:Sm}{a:A}:RS.try i n cs d (.rt a S)=.rt a S:=rfl
def FD {i n:Nat}{x:Str}{cs:ap}{d:Sm}:RS.try i n (x::cs) d (.ex x S)=Ho i (d ((List.replicate n .unb).set i<|.exn x) S):=aX<|.head _
def Et {i:Nat}{a:A}:Ho i (.rt a S)=.rt a S:=rfl
def Fx {i:Nat}:Ho i (.nx τ S)=.nx (τ.set i .unb) S:=rfl
abbrev LF (f:Str->bi):A->gu->R A:=λv S1=>match v with
 | .exn x=>opt (f x) λb=>.ok (.bl b) S1
 | _=>.no
def zR {f:Str->bi}{c:Ex}:MT f c τ S=(c τ S).bind (LF f):=rfl
def D7 {x:Str}{b:Bool}{tb:List<|Str×Bool}:LF (N7 ((x,b)::tb)) (.exn x) S=.ok (.bl b) S:=by
 show opt (List.lookup x ((x,b)::tb)) _=_;rw[cP,cD];rfl
abbrev R.D5 {α β:Type}(r:R α)(f:α->gu->R β):R β:=match r with
 | .ok a S=>f a S
 | _=>.no
def vJ {α β:Type}{a:α}{f:α->gu->R β}:R.D5 (.ok a S) f=f a S:=rfl
def zk {f:ae->gu->R A}{d:nu}:KJ f d τ S=R.D5 (d τ S) f:=by unfold KJ R.D5;cases d τ S<;>rfl
abbrev RS.Nf {α:Type}(r:R α)(f:α->gu->RS):RS:=match r with
 | .ok a S=>f a S
 | _=>.no
def Cd {α:Type}{a:α}{f:α->gu->RS}:RS.Nf (.ok a S) f=f a S:=rfl
def AO {t:Te}{c d:Sm}:K1 t c d τ S=RS.Nf (t τ S) (Ks c d τ):=by
 unfold K1 RS.Nf
 cases t τ S with
 | ok b S1=>cases b<;>rfl
 | ex _ _=>rfl
 | no=>rfl
abbrev RS.CU (i:Nat)(cs:ap)(d:Sm)(τ:ae):RS->RS
 | .ex x S1=>if x∈cs then Ho i (d (τ.set i<|.exn x) S1)else .no
 | r=>r
def xx {i:Nat}{cs:ap}{c d:Sm}:Hu i cs c d τ S=RS.CU i cs d τ (c τ S):=by
 unfold Hu RS.CU;cases c τ S<;>rfl
def A1 {i:Nat}{cs:ap}{d:Sm}{τ':ae}:RS.CU i cs d τ (.nx τ' S)=.nx τ' S:=rfl
def zw {i:Nat}{cs:ap}{d:Sm}{a:A}:RS.CU i cs d τ (.rt a S)=.rt a S:=rfl
def Ar {i:Nat}{x:Str}{cs:ap}{d:Sm}:RS.CU i (x::cs) d τ (.ex x S)=Ho i (d (τ.set i<|.exn x) S):=aX<|.head _
def xB:A.G4 []=some []:=rfl
def tZ {b:Bool}{xs:ae}:A.G4 (.bl b::xs)=(A.G4 xs).map (b::·):=rfl
end
def Lq:type_of% (anI @Aj<|anI @uz<|anI @Dg<|anI @Ak<|anI @A6<|anI @zY<|anI @A3<|anI @DW<|anI @CH<|anI @FD<|anI @Et<|anI @Fx<|anI @zR<|anI @D7<|anI @xB<|anI @tZ<|anI @vJ<|anI @zk<|anI @Cd<|anI @AO<|anI @xx<|anI @A1<|anI @zw<|anI @Ar<|trivial):=anI @Aj<|anI @uz<|anI @Dg<|anI @Ak<|anI @A6<|anI @zY<|anI @A3<|anI @DW<|anI @CH<|anI @FD<|anI @Et<|anI @Fx<|anI @zR<|anI @D7<|anI @xB<|anI @tZ<|anI @vJ<|anI @zk<|anI @Cd<|anI @AO<|anI @xx<|anI @A1<|anI @zw<|anI @Ar<|trivial
end Am
namespace Am
open PySem PySem.Spec PyProof.Rows L2
abbrev Df (K:aq)(x:Str)(st:aE):Prop:=∃(f:aj) (fd:FuncData),PySem.W.nsIn K mainGlobals x=some (some<|.ref f)/\Fun K x x st f fd
inductive En (P:ah) (w:af) (K:aq) (mg:Str->be) (base:ak):Prop
 | mk (h:ak) (X:K.In h) (G:h.Ns mainGlobals mg)
section
variable {P:ah}{w:af}{K:aq}{mg:Str->be}{base:ak}{x:Str}{st:aE}{ps:ap}{k:Nat}{F:ae->gu->R A}
def En.at(E:En P w K mg base){f:aj}(h:PySem.W.nsIn K mainGlobals x=some (some<|.ref f)):mg x=some (.ref f):=by
 obtain⟨_,X,G⟩:=E;exact fS X G h
def Df.of{f:aj}{kV pm ct:aa}(a:PySem.W.nsIn K mainGlobals x=some (some<|.ref f))(l:K.lookup f=some ⟨oc,od,.func<|PySem.W.fnOf x x (om st) (lF st) (gG st) .none kV doc pm an cdv ct,osl⟩)(c:PySem.W.codeIn K cdv x=true)(k:PySem.W.keepIn K (.ref f)=true):Df K x st:=⟨f,_,a,JP l c k⟩
meta abbrev Bi (x:Str)(st:aE)(ps:ap):Prop:=∀us:ar,us.length=ps.length->∀(kV d j:aa) (g:Option aj) (f ct:aa),bindArgs (PySem.W.fnOf x x (om st) (lF st) (gG st) .none kV d j g f ct) ⟨us,[]⟩=pure (ps.zip us)
def Df.get(d:Df K x st)(E:En P w K mg base)(b:Bi x st ps):∃f fd,Fun K x x st f fd/\mg x=some (.ref f)/\PySem.W.keepIn K (.ref f)=true/\Binds K fd ps []:=by
 obtain⟨f,fd,a,F⟩:=d;exact⟨f,fd,F,E.at a,F.kp,F.binds λkV g m k j ct us t=>b us t kV g m k j ct⟩
def Df.kA(d:Df K x st)(E:En P w K mg base)(h:∀{f fd},Fun K x x st f fd->FnOk P w K mg base nU k f fd ps (pq K ps.length F))(b:Bi x st ps):oZ P w K mg base k x ps F:=by
 obtain⟨f,fd,a,c,e,g⟩:=d.get E b;exact⟨f,fd,h a,c,e,g⟩
end
section
variable {X:Cx}{pos p:Pos}{e1 e2:aC}{x p1 p2:Str}{k K0:Nat}{F:ae->gu->R A}{c1 c2:Ex}
def zD(G:oZ X.prog X.w X.K X.mg X.base k x [p1] F)(hr:Room K0 X.A)(h1:AE X e1 c1)(hk:k<=K0:=by decide)(hg:Gl X x:=by rfl)(hdb:(x == ("__debug__" : Str))=false:=by decide)(s1:starEach [e1] X.env=(false,eval e1 X.env)::starEach [] X.env:=by rfl)(hp:(backTo pos<|starEach [] X.env).any (·.1)=false:=by rfl):AE X (.Call (.Name x p) [e1] [] pos) (eFn F<|gn c1 gy):=HA G (hr.mono hk) (gp h1 gw s1) (r_ zJ) hg hdb s1 hp
def sI(G:oZ X.prog X.w X.K X.mg X.base k x [p1,p2] F)(hr:Room K0 X.A)(h1:AE X e1 c1)(h2:AE X e2 c2)(hk:k<=K0:=by decide)(hg:Gl X x:=by rfl)(hdb:(x == ("__debug__" : Str))=false:=by decide)(s1:starEach [e1,e2] X.env=(false,eval e1 X.env)::starEach [e2] X.env:=by rfl)(s2:starEach [e2] X.env=(false,eval e2 X.env)::starEach [] X.env:=by rfl)(hp:(backTo pos<|starEach [e2] X.env).any (·.1)=false:=by rfl):AE X (.Call (.Name x p) [e1,e2] [] pos) (eFn F<|gn c1<|gn c2 gy):=HA G (hr.mono hk) (gp h1 (gp h2 gw s2) s1) (r_<|r_ zJ) hg hdb s1 hp
def rO{N P:ap}{sc:Scope}(a:sc.kind=.function)(b:sc.isCoroutine=false)(c:sc.isGenerator=false)(h:N.Nodup/\N.take P.length=P/\(∀x∈P,sc.names.lookup x=some .local\/sc.names.lookup x=some .cell)/\∀y∈sc.names,y.2≠.free):FnScope N P sc:=⟨a,b,c,h.1,h.2.1,h.2.2.1,h.2.2.2⟩
end
abbrev nG (S:gu)(n:Nat):Option (List<|Int×A):=match S[n]? with
 | some (.mE xs)=>some xs
 | _=>none
def lB{n:Nat}(h:nG S n=some xs):S[n]?=some (.mE xs):=by
 unfold nG at h;split at h
 ·rename_i e;cases h;exact e
 ·cases h
def qh{S:gu}{n:Nat}(h:S[n]?=some (.mE xs)):nG S n=some xs:=by
 unfold nG;rw[h]
abbrev jG (kvs:List<|Int×A)(k:Int):Option A:=(kvs.find? λd=>decide<|d.1=k).map (·.2)
abbrev yk (kvs:List<|Int×A)(k:Int)(v:A):List (Int×A):=
 if (jG kvs k).isSome=true then kvs.map (λd=>if d.1=k then(d.1,v)else d)else kvs++[(k,v)]
section
variable {K:aq}{ρ:ba}{H:Hp}
def A9{p:Int×A}{r:List<|Int×A}{k:Int}(e:p.1=k):jG (p::r) k=some p.2:=by simp[jG,cA,e]
def BE{p:Int×A}{r:List<|Int×A}{k:Int}(e:¬p.1=k):jG (p::r) k=jG r k:=by simp[jG,cA,e]
def K_{a b:Int}(e:(Sum.inl a:Key)=Sum.inl b):a=b:=by injection e
theorem DI.look:∀{kvs:List<|Int×A}{ks:List<|Key×V}(k:Int),DI K ρ H kvs ks->(jG kvs k).isSome=(qc ks (Sum.inl k:Key)).isSome/\∀x,jG kvs k=some x->∃v,qc ks (Sum.inl k:Key)=some v/\AV K ρ H x v
 | [],[],k,_=>⟨rfl,λx h=>nomatch h⟩
 | p::r,q::r',k,⟨⟨e,a⟩,t⟩=>by
  by_cases c:p.1=k
  ·have d:q.1=(Sum.inl k:Key):=by rw[e,c]
   rw[A9 c,qj d];exact⟨rfl,λx h=>by cases h;exact⟨_,rfl,a⟩⟩
  ·have d:¬q.1=(Sum.inl k:Key):=λz=>c<|K_<|e.symm.trans z;rw[BE c,pP d];exact DI.look k t
theorem DI.repl{x:A}{v:V}(h:AV K ρ H x v)(k:Int):∀{kvs:List<|Int×A}{ks:List<|Key×V},DI K ρ H kvs ks->DI K ρ H (kvs.map λkv=>if kv.1=k then(kv.1,x)else kv) (ks.map λkv=>if kv.1=(Sum.inl k:Key)then(kv.1,v)else kv)
 | [],[],_=>trivial
 | p::r,q::r',⟨⟨e,a⟩,t⟩=>by
  refine⟨?_,DI.repl h k t⟩;dsimp only;by_cases c:p.1=k
  ·rw[aX c,aX<|by rw[e,c]];exact⟨e,h⟩
  ·rw[aZ c,aZ λz=>c<|K_<|e.symm.trans z];exact⟨e,a⟩
theorem DI.snoc{x:A}{v:V}(h:AV K ρ H x v)(k:Int):∀{kvs:List<|Int×A}{ks:List<|Key×V},DI K ρ H kvs ks->DI K ρ H (kvs++[(k,x)]) (ks++[(Sum.inl k,v)])
 | [],[],_=>⟨⟨rfl,h⟩,trivial⟩
 | p::r,q::r',⟨a,t⟩=>⟨a,DI.snoc h k t⟩
def DI.put{x:A}{v:V}(h:AV K ρ H x v)(k:Int)(d:DI K ρ H kvs ks):DI K ρ H (yk kvs k x) (putK ks (Sum.inl k:Key) v):=by
 unfold yk putK;rw[rR,<- (d.look k).1];by_cases c:(jG kvs k).isSome=true
 ·rw[aX c,aX c];exact DI.repl h k d
 ·rw[aZ c,aZ c];exact DI.snoc h k d
def DI.length:∀{kvs:List<|Int×A}{ks:List<|Key×V},DI K ρ H kvs ks->kvs.length=ks.length
 | [],[],_=>rfl
 | _::_,_::_,⟨_,t⟩=>b_ (·+1) t.length
def Rel.mE{n:Nat}{a:aj}(R:Rel K ρ H S)(ha:ρ[n]?=some a)(hS:S[n]?=some (.mE xs)):∃vs,H a=some (.dK vs)/\DI K ρ H xs vs:=R.at n a _ ha hS
def Rel.MH{S:gu}{p:aj}(R:Rel K ρ H S)(hp:H p=none)(r:DI K ρ H xs vs):Ext ρ (ρ++[p]) H (upd H p<|.dK vs)/\Rel K (ρ++[p]) (upd H p<|.dK vs) (S++[.mE xs])/\(ρ++[p])[S.length]?=some p:=by
 have ex:Ext ρ (ρ++[p]) H (upd H p<|.dK vs):=⟨⟨d_ _ _,λa u _ h=>by rw[gA<|gH h hp];exact h⟩,λa u h _=>by rw[gA<|gH h hp];exact h,λa h=>by
  rcases bC.mp h with z|z
  ·exact .inl z
  ·have e:a=p:=by simpa using z
   rw[e];exact .inr hp⟩
 have g:p∉ρ:=R.Dw hp;have d:(ρ++[p])[S.length]?=some p:=by rw[<- R.len];simp
 refine⟨ex,⟨by simp[R.len],?_,?_⟩,d⟩
 ·rw[cy];refine⟨R.nd,by simp,λa k b hb e=>?_⟩;have:b=p:=by simpa using hb
  exact g<|by rw[<- this,<- e];exact k
 ·intro n a o h1 h2;by_cases hn:n<S.length
  ·rw[aO<|by rw[R.len];exact hn]at h1;rw[aO hn]at h2;have na:a≠p:=λz=>g (by rw[<- z];exact bf h1);have:=R.at n a o h1 h2
   cases o with
   | lst ys=>obtain⟨f,e,q⟩:=this;exact⟨f,by rw[gA na];exact e,q.ext ex⟩
   | dct _|mE _|dcp _=>obtain⟨f,e,q⟩:=this;exact⟨f,by rw[gA na];exact e,q.ext ex⟩
   | ins _ _=>obtain⟨j,m,e⟩:=this;exact⟨j,m,by rw[gA na];exact e⟩
  ·have e:n=S.length:=by
    have:=(aI.mp h2).1;simp at this
    lia
   subst e;rw[d]at h1
   cases h1
   simp at h2;subst h2;exact⟨vs,iF,r.ext ex⟩
def Rel.yk{S:gu}{n:Nat}{a:aj}(R:Rel K ρ H S)(ha:ρ[n]?=some a)(hS:S[n]?=some (.mE xs))(r:DI K ρ H ys ws):Ext ρ ρ H (upd H a<|.dK ws)/\Rel K ρ (upd H a<|.dK ws) (S.set n<|.mE ys):=by
 obtain⟨k,e,_⟩:=R.at n a _ ha hS;have ex:Ext ρ ρ H (upd H a<|.dK ws):=⟨⟨cQ _,λb u i h=>by
  have:b≠a:=by
   intro z;subst z;rw[e]at h;cases h;exact i
  rw[gA this];exact h⟩,λb u h n=>by
  rw[gA λz=>n<|by rw[z];exact bf ha];exact h,λ_ h=>.inl h⟩
 refine⟨ex,by rw[bA];exact R.len,R.nd,λm b o h1 h2=>?_⟩;by_cases hm:m=n
 ·subst hm;rw[ha]at h1;cases h1;rw[bO (aI.mp hS).1]at h2
  cases h2
  exact⟨ws,iF,r.ext ex⟩
 ·rw[bM<|cB hm]at h2;have nb:b≠a:=λz=>by
   subst z;obtain⟨t,e1⟩:=aI.mp ha;obtain⟨B,e2⟩:=aI.mp h1;exact hm<|(fU R.nd).mp<|e2.trans e1.symm
  have:=R.at m b o h1 h2
  cases o with
  | lst ys=>obtain⟨d,f,q⟩:=this;exact⟨d,by rw[gA nb];exact f,q.ext ex⟩
  | dct _|mE _|dcp _=>obtain⟨d,f,q⟩:=this;exact⟨d,by rw[gA nb];exact f,q.ext ex⟩
  | ins _ _=>obtain⟨g,j,f⟩:=this;exact⟨g,j,by rw[gA nb];exact f⟩
end
section
variable {X:Cx}{pos:Pos}{a b:aC}
abbrev BN (x y:A)(S:gu):R A:=match x,y with
 | .ref n,.int k=>opt (nG S n) λkvs=>opt (jG kvs k) λv=>.ok v S
 | _,_=>.no
def Br{x:A}{P:A->gu->Prop}{E:Str->gu->Prop}(h:(BN x y S).post P E):∃n k kvs v,x=.ref n/\y=.int k/\nG S n=some kvs/\jG kvs k=some v/\P v S:=by
 unfold BN at h;split at h
 ·obtain⟨kvs,h1,h⟩:=gE h;obtain⟨v,h2,h⟩:=gE h;exact⟨_,_,kvs,v,rfl,rfl,h1,h2,h⟩
 ·exact h.elim
def Kw(hu:X.A.units+64<cLine):Jt X (r2 X BN):=λf j pins s σ H x y v u Q I rx ry ⟨ρ,S,a,b,R,va,vb,h⟩ hs=>by
 obtain⟨n,k,kvs,z,m,hb,hn,B,hP⟩:=Br h;subst m hb
 cases vb
 cases va with
 | @ref p _ hp=>
  obtain⟨ks,e,d⟩:=R.mE hp<|lB hn;obtain⟨w,hw,t⟩:=(d.look k).2 z B;have g:yG H p (kV<|Sum.inl k) (qc ks<|Sum.inl k):=yG.k e;rw[hw]at g;exact FP () f j pins s σ H _ _ v u Q I rx ry ⟨p,w,rfl,g,hP _ _ _ .refl R t⟩ hs
def J5(hu:X.A.units+64<cLine){ca cb:Ex}(ha:AE X a ca)(hb:AE X b cb)(hs:vg b:=by exact λ_ _=>rfl):AE X (.Subscript a b pos) (gC BN ca cb):=PE.imp (HC (Kw hu) ha hb hs) λσ H Q h=>pX h
abbrev oG (o i v:A)(S:gu):R Unit:=match o,i with
 | .ref n,.int k=>opt (nG S n) λkvs=>gd (kvs.length<sizeLine) (.ok Unit.unit<|S.set n<|.mE<|yk kvs k v)
 | _,_=>.no
end
section
@[irreducible] noncomputable def big:Nat:=2 ^ 4096
end
abbrev kA (p:Int×Int):A:=.ktu [.int p.1,.int p.2]
end Am
namespace L2
open PySem PySem.Spec PyProof.Rows
section
variable {prog:ah}{w:af}{A:au}{R:Result->aA->Prop}{s:aA}
def oA{iter:aC}{rest:List Comprehension}{env:Env}
  (h0:codeAny (model prog w) A (.compLoop (.DictComp ek ev (⟨tg,iter,ifs,0⟩::rest) scope pos) 0 it acc env) R s)
  (h:wpAny (model prog w) A (pyIter it) (λit' s'=>codeAny (model prog w) A (.compLoop (.DictComp ek ev (⟨tg,iter,ifs,0⟩::rest) scope pos) 0 it' acc env) R s')
   (notedBy (model prog w) A env λx s'=>R (.error x) s') s) :
  codeAny (model prog w) A (.compStart (.DictComp ek ev (⟨tg,iter,ifs,0⟩::rest) scope pos) 0 it acc env) R s:=by
 refine codeAny_of_tree ?_;show wpAny _ _ ((compStart (.DictComp ek ev (⟨tg,iter,ifs,0⟩::rest) scope pos) 0 it acc env).onRaise λx=>do noteFrame x env;standAt theWindowsPlace) _ _ s;refine wpAny_notedAt ?_;unfold compStart;show wpAny _ _ (ask >>= _) _ _ s;refine aJ<|wpAny_askSetting<|wpAny_ite ?_;split
 ·first
   | exact aJ (aT<|aT<|anI rfl h0)
   | exact aT<|anI rfl h0
 ·first
   | exact aJ (fK<|aJ<|bW<|aJ<|cS h (λit' s' h'=>aT<|anI rfl h') λ_ _ x=>x)
   | (refine aJ<|fK ?_;show wpAny _ _ (standAt iter.pos >>= _) _ _ s;exact aJ<|bW<|aJ<|cS h (λit' s' h'=>aT<|anI rfl h') λ_ _ x=>x)
end
section
variable {X:Cx}{pins:bn}{σ:St}{H H':Hp}{s:aA}{a:aj}{y v:V}{u r:aa}{A:au}{E:aa->aA->Prop}
def BR{Q:Unit->aA->Prop}(hu:A.units+1<cLine)(I:Inv X pins σ H s)(g:BJ H a y v H')(ry:RelV y u)(rv:RelV v r)(h:∀s',Inv X pins σ H' s'->Q Unit.unit s') :
  wpAny (model X.prog X.w) A (dictSet a u r) Q E s:=by
 rcases g with⟨kvs,k,e,m,l,C⟩|⟨kvs,k,b,e,m,J,l,C⟩
 ·subst m C;obtain⟨z,hd,L,d,B⟩:=LD I.hok e;have F:L.length<=sizeLine:=by rw[<- d.length];exact z
  have t:(putK kvs k v).length<=sizeLine:=by have:=qS kvs k v;lia
  refine wpAny_dictSet_pairs (hsz:=F) (Dp ry) B λh' f hs=>h _ ?_;have N:∃q,h'.get? a=some q:=let⟨q,_,_,j,_⟩:=f;⟨q,j⟩
  exact AB I (by rw[e];exact True.intro) hs N<|Ke t hd (d.put k rv) f
 ·subst m C
  cases(show u=Value.ref b from ry)
  obtain⟨z,hd,xs,d,B⟩:=Lh I.hok e;have F:xs.length<=sizeLine:=by rw[<- fR d];exact z
  have t:(putK kvs k v).length<=sizeLine:=by have:=qS kvs k v;lia
  refine wpAny_dictSet_heap (hsz:=F) (show A.units<cLine by lia) (yH I.hok J) B λh' f hs=>h _ ?_;obtain⟨q,es,O,j,h2,K,P,_,M⟩:=f;refine AB I (by rw[e];exact True.intro) hs ⟨q,j⟩ ⟨t,hd,_,(d.put k J rv).keeps λc ys G=>?_,q,es,O,j,h2,K,P,M⟩;rw[gA<|KQ G e λz=>nomatch z];exact G
end
def vn(ek ev t1 i1 t2 i2:aC)(f1 f2:List aC)(scope:Scope)(pos:Pos)(it acc:aa)(env:Env) :
  compTurn (.DictComp ek ev [⟨t1,i1,f1,0⟩,⟨t2,i2,f2,0⟩] scope pos) 0 it acc env=(do
   standAt i1.pos
   match <- pyNext it with
   | none=>pure (.done .next)
   | some v=>
    letOwnedTupleGo t1 it v
    assign t1 env v
    let mut ok:=true
    for c in f1 do
     if ok then ok <- isTrue c env (eval c env)
    if ok then
     let x <- eval i2 env
     standAt i2.pos
     let x <- foldedSetIterable i2 env x
     let _ <- runOwn (.compStart (.DictComp ek ev [⟨t1,i1,f1,0⟩,⟨t2,i2,f2,0⟩] scope pos) 1 (<- holding [x] (pyIter x)) acc env) env
    again (.compLoop (.DictComp ek ev [⟨t1,i1,f1,0⟩,⟨t2,i2,f2,0⟩] scope pos) 0 it acc env)):=by rfl
def vm(ek ev t1 i1 t2 i2:aC)(f1 f2:List aC)(scope:Scope)(pos:Pos)(it:aa)(d:aj)(env:Env) :
  compTurn (.DictComp ek ev [⟨t1,i1,f1,0⟩,⟨t2,i2,f2,0⟩] scope pos) 1 it (.ref d) env=(do
   standAt i2.pos
   match <- pyNext it with
   | none=>pure (.done .next)
   | some v=>
    letOwnedTupleGo t2 it v
    assign t2 env v
    let mut ok:=true
    for c in f2 do
     if ok then ok <- isTrue c env (eval c env)
    if ok then
     (do
      let kv <- eval ek env
      let vv <- holding [kv] (eval ev env)
      standAt { ek.pos with endLine:=ev.pos.endLine,endCol:=ev.pos.endCol }
      holding [kv,vv] (dictSet d kv vv))
    again (.compLoop (.DictComp ek ev [⟨t1,i1,f1,0⟩,⟨t2,i2,f2,0⟩] scope pos) 1 it (.ref d) env)):=by rfl
section
variable {prog:ah}{w:af}{A:au}{R:Result->aA->Prop}{s:aA}
theorem nv{f1 f2:List aC}{env:Env}
  (h0:codeAny (model prog w) A (.compLoop (.DictComp ek ev [⟨t1,i1,f1,0⟩,⟨t2,i2,f2,0⟩] scope pos) 1 it acc env) R s)
  (h:wpAny (model prog w) A (pyIter it) (λit' s'=>codeAny (model prog w) A (.compLoop (.DictComp ek ev [⟨t1,i1,f1,0⟩,⟨t2,i2,f2,0⟩] scope pos) 1 it' acc env) R s')
   (notedBy (model prog w) A env λx s'=>R (.error x) s') s) :
  codeAny (model prog w) A (.compStart (.DictComp ek ev [⟨t1,i1,f1,0⟩,⟨t2,i2,f2,0⟩] scope pos) 1 it acc env) R s:=by
 refine codeAny_of_tree ?_;show wpAny _ _ ((compStart (.DictComp ek ev [⟨t1,i1,f1,0⟩,⟨t2,i2,f2,0⟩] scope pos) 1 it acc env).onRaise λx=>do noteFrame x env;standAt theWindowsPlace) _ _ s;refine wpAny_notedAt ?_;unfold compStart;show wpAny _ _ (ask >>= _) _ _ s;refine aJ<|wpAny_askSetting<|wpAny_ite ?_;split
 ·first
   | exact aJ (aT<|aT<|anI rfl h0)
   | exact aT<|anI rfl h0
 ·first
   | exact aJ (fK<|aJ<|bW<|aJ<|cS h (λit' s' h'=>aT<|anI rfl h') λ_ _ x=>x)
   | (refine aJ<|fK ?_;show wpAny _ _ (standAt i2.pos >>= _) _ _ s;exact aJ<|bW<|aJ<|cS h (λit' s' h'=>aT<|anI rfl h') λ_ _ x=>x)
end
abbrev AQ (g:TG)(tc:TT)(tk tv:TE)(D:aj)(Nn:L2.St->Hp->Prop)(σ:L2.St)(J:It)(H1:Hp):Prop:=
 ∃V:Nat->Nat->L2.St->Hp->Prop,(∃m,V 0 m σ H1)/\∀i m f H',V i m f H' ->
  (J.stop i H'/\Nn f H')\/(J.go i H'/\∀x H2,J.yld i H' x H2->g x f H2 λd k=>tc d k λb j=>
   if b=true then tk d j λy H5=>tv d H5 λz H6=>∃H7,BJ H6 D y z H7/\∃m',m'<m/\V (i+1) m' d H7
   else ∃m',m'<m/\V (i+1) m' d j)
def xE{Z:Cx}{f1:List aC}{fp:ba}{tn:Nat->ak->Prop}{H:Hp}{s:aA}{g:TG}{tc:TT}{tk tv:TE}{Nn:L2.St->Hp->Prop}
  (hu:Z.A.units+1<cLine) (hc:Z.calm=true) (hxe:Z.xe=λ_ _=>False) (T:Turn Z.prog Z.w Z.K tg J fp it tn) (I:Inv Z pins σ H s) (st:tn 0 s.heap) (hf:∀b∈fp,kY Z pins H b) (hg:PG Z tg g) (ht:yb Z ifs tc) (hk:PE Z ek tk) (hv:PE Z ev tv) (goal:AQ g tc tk tv D Nn σ J H) :
  codeAny (model Z.prog Z.w) Z.A (.compLoop (.DictComp ek ev [⟨t1,i1,f1,0⟩,⟨tg,i2,ifs,0⟩] scope pos) 1 (.ref it) (.ref D) Z.env) (λr s'=>r=.ok .next/\∃σ' H',Inv Z pins σ' H' s'/\Nn σ' H') s:=by
 obtain⟨V,⟨m0,v0⟩,C⟩:=goal;have stat:∀{H':Hp},(∀b∈fp,H' b=none)->∀b∈fp,kY Z pins H' b:=λhn b hb=>⟨hn b hb,(hf b hb).2⟩;refine fE rfl (λn s'=>∃i σ' H',Inv Z pins σ' H' s'/\tn i s'.heap/\(∀b∈fp,H' b=none)/\V i n σ' H') (λn s5 hI=>?_) m0 ⟨0,σ,H,I,st,λb hb=>(hf b hb).1,v0⟩;obtain⟨i,σ5,H5,I5,B,G,w5⟩:=hI;show wpAny _ Z.A ((compTurn (.DictComp ek ev [⟨t1,i1,f1,0⟩,⟨tg,i2,ifs,0⟩] scope pos) 1 (.ref it) (.ref D) Z.env).onRaise λx=>do noteFrame x _;theTreesLotGoes x) _ _ s5;refine fN ?_;rw[vm];refine aJ (bW<|aJ ?_)
 rcases C i n σ5 H5 w5 with⟨F,q⟩|⟨go,step⟩
 ·refine iN (T.done Z rfl rfl rfl hc i pins s5 σ5 H5 _ I5 (stat G) B F) λr s6 h9=>?_;obtain⟨W,I6⟩:=h9;subst W;exact aT ⟨rfl,σ5,H5,I6,q⟩
 ·refine iN (T.item Z rfl rfl rfl hc i pins s5 σ5 H5 _ I5 (stat G) B go) λr s6 h9=>?_;obtain⟨u,W,h6⟩:=h9;subst W;kcf_m;o_rec;have k:∀{α:Type} {t:Sem α} {Q Q':α->aA->Prop} {E:aa->aA->Prop} {s:aA},wpAny (model Z.prog Z.w) Z.A t Q Z.xe s->(∀a s,Q a s->Q' a s)->wpAny (model Z.prog Z.w) Z.A t Q' E s:=λh hQ=>by
   rw[hxe]at h;exact p_ h hQ
  refine aJ<|k (hg _ s7 σ5 H7 x u _ I7' r7<|step x H7 y7) λ_ s8 ⟨σ8,H8,I8,q8⟩=>?_;refine aJ<|k (ht _ s8 σ8 H8 _ I8 q8) λok s9 ⟨H9,I9,L⟩=>?_;have j:∀{f:aA} {H10:Hp},Inv Z (pins++mX fp s7.heap) σ8 H10 f->(∃m',m'<n/\V (i+1) m' σ8 H10) ->
    ∃m,m<n/\∃i σ' H',Inv Z pins σ' H' f/\tn i f.heap/\(∀b∈fp,H' b=none)/\V i m σ' H':=λ{f H10} I10 h9=>by
   obtain⟨m',hm,w10⟩:=h9;kj_on;obtain⟨o,e,d⟩:=T.obj _ _ st7 b hb;cb_eq
  cases ok with
  | false=>
   rw[aZ bh]at L;exact aT ⟨rfl,j I9 L⟩
  | true=>
   rw[aX rfl]at L;refine aJ<|aJ<|k (hk _ s9 σ8 H9 _ I9 L) λy f ⟨v10,H10,I10,P,Y⟩=>?_;refine aJ<|cM<|k (hv _ f σ8 H10 _ I10 Y) λz s11 ⟨v11,H11,U,N,H12,dp,M⟩=>?_;refine aJ<|bW<|cM ?_;exact BR (X:=Z) hu U dp P N λs12 O=>aT ⟨rfl,j O M⟩
abbrev Gr (ob:HO)(cap:List<|bj)(g:TG)(tc:TT)(wi2:TI)(g2:TG)(tc2:TT)(tk tv:TE)(σ:L2.St)(Q:VK)(J:It)(H1:Hp):Prop:=∀D,H1 D=none ->
 ∃W:Nat->Nat->L2.St->Hp->Prop,(∃m,W 0 m (cap.map<|E1 σ)<|upd H1 D ob)/\∀i m f H',W i m f H' ->
  (J.stop i H'/\Q (.ref D) H')\/(J.go i H'/\∀x H2,J.yld i H' x H2->g x f H2 λd k=>tc d k λb j=>
   if b=true then wi2 d j (AQ g2 tc2 tk tv D (λσ5 H5=>∃m',m'<m/\W (i+1) m' σ5 H5) d)
   else ∃m',m'<m/\W (i+1) m' d j)
abbrev IX (ob:HO)(cap:List<|bj)(wi:TI)(g:TG)(tc:TT)(wi2:TI)(g2:TG)(tc2:TT)(tk tv:TE):TE:=λσ H Q=>wi σ H<|Gr ob cap g tc wi2 g2 tc2 tk tv σ Q
def G3{X:Cx}{use:Option<|aa->Sem Unit}{Q':aa->aA->Prop}{iter:aC}{N:ap}{wi wi2:TI}{g g2:TG}{tc tc2:TT}{tk tv:TE}{ob:HO}(hob:∀{P:ah}{w:af}{H:Hp}(h:ak),sysModules<h.objs.size->iJ P w H (h.push { cls:=.type "dict",data:=.dict #[]}) h.objs.size ob)(hu:X.A.units+1<cLine)(hc:X.calm=true)(S:CpScope X scope N cap)(hi:PI X tg iter wi)
  (hg:∀C s₀ H₀ ex,PG (gQ X scope N C s₀ H₀ ex) tg g) (ht:∀C s₀ H₀ ex,yb (gQ X scope N C s₀ H₀ ex) ifs tc) (hi2:∀C s₀ H₀ ex,PI (gQ X scope N C s₀ H₀ ex) tg2 iter2 wi2)
  (hg2:∀C s₀ H₀ ex,PG (gQ X scope N C s₀ H₀ ex) tg2 g2) (ht2:∀C s₀ H₀ ex,yb (gQ X scope N C s₀ H₀ ex) ifs2 tc2) (hk:∀C s₀ H₀ ex,PE (gQ X scope N C s₀ H₀ ex) ek tk) (hv:∀C s₀ H₀ ex,PE (gQ X scope N C s₀ H₀ ex) ev tv)
  (hs:∀x,foldedSetIterable iter X.env x=pure x:=by intro _;rfl) (hs2:∀env x,foldedSetIterable iter2 env x=pure x:=by intro _ _;rfl)  : ∀(pins:bn) (s:aA) (σ:L2.St) (H:Hp) (Q:VK),Inv X pins σ H s->IX ob cap wi g tc wi2 g2 tc2 tk tv σ H Q ->
  (∀(s6:aA) (C D:aj) (H5:Hp) (m:Str->be),s6.heap.Ns C m->kY X pins H5 C->(∀h',Heap.SameBut C s6.heap h'->Inv X pins σ H5 { s6 with heap:=h' })->Q (.ref D) H5->∀v,compPost (model X.prog X.w) X.A X.xe use Q' (.ref D) C (.ok v) s6) ->
  wpAny (model X.prog X.w) X.A (comprehension (.DictComp ek ev [⟨tg,iter,ifs,0⟩,⟨tg2,iter2,ifs2,0⟩] scope pos) scope X.env (firstIterPos [⟨tg,iter,ifs,0⟩,⟨tg2,iter2,ifs2,0⟩] pos) newDict (firstAsync [⟨tg,iter,ifs,0⟩,⟨tg2,iter2,ifs2,0⟩]) (firstIter [⟨tg,iter,ifs,0⟩,⟨tg2,iter2,ifs2,0⟩] X.env) use) Q' X.xe s:=by
 intro pins s σ H Q I h hfin;k_ne;refine d7 (use:=use) rfl hs (oV hfree) S.kind S.nm<|iN (hi pins s σ H _ I h) λxv s1 h1=>iN h1 λitv f h2=>?_;obtain⟨it,fp,tn,J,H2,rfl,I2,T,st2,f2,h2⟩:=h2;refine cH<|vF λO k old t=>?_;obtain⟨W,⟨m0,w0⟩,Y⟩:=h2 f.heap.objs.size I2.fresh;dsimp only at k old t ⊢;have I3:Inv X pins σ (upd H2 f.heap.objs.size ob) { f with heap:=f.heap.push { cls:=.type "dict",data:=.dict #[]}}:=I2.laid (a:=f.heap.objs.size) (o:=ob) (h':=f.heap.push { cls:=.type "dict",data:=.dict #[]}) (t':=f.toks) (λ_ _ q=>aW _ q) (aN _)<|hob f.heap I2.big;have hfp:∀b∈fp,∃o,f.heap.get? b=some o:=λb hb=>by
  obtain⟨o,e,_⟩:=T.obj 0 _ st2 b hb;exact⟨o,e⟩
 have neD:∀b∈fp,b≠f.heap.objs.size:=λb hb=>by
  obtain⟨o,e⟩:=hfp b hb;exact bu<|aV e
 have f3:∀b∈fp,kY X pins (upd H2 f.heap.objs.size ob) b:=λb hb=>⟨by rw[gA<|neD b hb];exact(f2 b hb).1,(f2 b hb).2⟩;have hDC:f.heap.objs.size≠(f.heap.push { cls:=.type "dict",data:=.dict #[]}).objs.size:=by rw[dm];exact bu (bw _)
 have I4:=yJ (tk:=f.toks+([]:List<|Str×aa).length) (fp:=fp) S I3 f3 (λb hb=>by
  obtain⟨o,e⟩:=hfp b hb;exact⟨o,aW _ e⟩) k t old
 have st4:tn 0 O:=T.keep _ _ _ st2 λb hb o e=>old b o<|aW _ e;have stat:∀{H':Hp},(∀b∈fp,H' b=none)->∀b∈fp,kY (gQ X scope N (f.heap.push { cls:=.type "dict",data:=.dict #[]}).objs.size { f with heap:=f.heap.push { cls:=.type "dict",data:=.dict #[]}} (upd H2 f.heap.objs.size ob) fp) [] H' b:=λhn b hb=>by
  have ok:=I4.ok;kcj_m
 have L:∀s4:aA,s4={ f with heap:=O,toks:=f.toks+([]:List<|Str×aa).length } ->
   codeAny (model X.prog X.w) X.A (.compLoop (.DictComp ek ev [⟨tg,iter,ifs,0⟩,⟨tg2,iter2,ifs2,0⟩] scope pos) 0 (.ref it) (.ref f.heap.objs.size)<|compEnvC scope (cellsFrom ((f.heap.push { cls:=.type "dict",data:=.dict #[]}).objs.size+1) scope.names<|ny X.env scope.names []) (f.heap.push { cls:=.type "dict",data:=.dict #[]}).objs.size X.env)
    (compPost (model X.prog X.w) X.A X.xe use Q' (.ref f.heap.objs.size) (f.heap.push { cls:=.type "dict",data:=.dict #[]}).objs.size) s4:=by
  rintro s4 rfl;refine fE rfl (λn s'=>∃i B H',Inv (gQ X scope N (f.heap.push { cls:=.type "dict",data:=.dict #[]}).objs.size { f with heap:=f.heap.push { cls:=.type "dict",data:=.dict #[]}} (upd H2 f.heap.objs.size ob) fp) [] B H' s'/\tn i s'.heap/\(∀b∈fp,H' b=none)/\W i n B H') (λn s5 hI=>?_) m0 ⟨0,_,_,I4,st4,λb hb=>(f3 b hb).1,w0⟩;obtain⟨i,σ5,H5,I5,V,fr5,w5⟩:=hI;show wpAny _ X.A ((compTurn (.DictComp ek ev [⟨tg,iter,ifs,0⟩,⟨tg2,iter2,ifs2,0⟩] scope pos) 0 (.ref it) (.ref f.heap.objs.size)<|compEnvC scope (cellsFrom ((f.heap.push { cls:=.type "dict",data:=.dict #[]}).objs.size+1) scope.names<|ny X.env scope.names []) (f.heap.push { cls:=.type "dict",data:=.dict #[]}).objs.size X.env).onRaise λx=>do noteFrame x _;theTreesLotGoes x) _ _ s5;refine fN ?_;rw[vn];refine aJ (bW<|aJ ?_)
  rcases Y i n σ5 H5 w5 with⟨stop,q⟩|⟨go,step⟩
  ·refine iN (T.done (gQ X scope N (f.heap.push { cls:=.type "dict",data:=.dict #[]}).objs.size { f with heap:=f.heap.push { cls:=.type "dict",data:=.dict #[]}} (upd H2 f.heap.objs.size ob) fp) rfl rfl rfl hc i [] s5 σ5 H5 _ I5 (stat fr5) V stop) λr s6 h9=>?_;obtain⟨hr,I6⟩:=h9;subst hr;obtain⟨m6,hn6,_⟩:=I6.loc;refine aT<|hfin s6 _ _ H5 m6 hn6 (I3.sY (aN _) I6.free) (λh' sb=>?_) q _;have u6:=I6.base;have nC:∀b o,(f.heap.push { cls:=.type "dict",data:=.dict #[]}).get? b=some o->b≠(f.heap.push { cls:=.type "dict",data:=.dict #[]}).objs.size:=λb o e=>bu<|aV e;kd_p
   ·exact sb.extBut b o (nC b o e) (u6.keep b o e n hb hx)
   ·obtain⟨sl,z⟩:=u6.slot b o e n hb hx;exact⟨sl,sb.extBut b _ (nC b o e) z⟩
   ·exact u6.free b o e n hx
   ·obtain⟨o',z⟩:=u6.there b o e hx;exact⟨o',sb.extBut b _ (nC b o e) z⟩
   ·intro b o e;have hb:∀c v,H5 c=some v->c≠(f.heap.push { cls:=.type "dict",data:=.dict #[]}).objs.size:=λc v e z=>by
     rw[z]at e;have:=I6.free;rw[show H5 (f.heap.push { cls:=.type "dict",data:=.dict #[]}).objs.size=none from this]at e
     cases e
    refine(I6.hok b o e).stay (λc v hc q=>sb.extBut c v ?_ q) (λ_ q=>q) λ_ _ q=>q
    rcases hc with z|z
    ·rw[z];exact hb b o e
    ·exact hb c _ z
   ·intro b hb;obtain⟨_,z1,_,z3,z4,z5⟩:=f3 b hb;exact⟨z3,z1,z4,z5⟩
  ·refine iN (T.item (gQ X scope N (f.heap.push { cls:=.type "dict",data:=.dict #[]}).objs.size { f with heap:=f.heap.push { cls:=.type "dict",data:=.dict #[]}} (upd H2 f.heap.objs.size ob) fp) rfl rfl rfl hc i [] s5 σ5 H5 _ I5 (stat fr5) V go) λr s6 h9=>?_;obtain⟨u,hr,h6⟩:=h9;subst hr;kcf_m;o_rec;kst_p;refine aJ<|p_ (ht _ _ _ fp _ s8 σ8 H8 _ I8 q8) λok s9 ⟨H9,I9,q9⟩=>?_;have K:∀{G:aA} {H10:Hp} {j:L2.St},Inv (gQ X scope N (f.heap.push { cls:=.type "dict",data:=.dict #[]}).objs.size { f with heap:=f.heap.push { cls:=.type "dict",data:=.dict #[]}} (upd H2 f.heap.objs.size ob) fp) ([]++mX fp s7.heap) j H10 G->(∃m',m'<n/\W (i+1) m' j H10) ->
     ∃m,m<n/\∃i B H',Inv (gQ X scope N (f.heap.push { cls:=.type "dict",data:=.dict #[]}).objs.size { f with heap:=f.heap.push { cls:=.type "dict",data:=.dict #[]}} (upd H2 f.heap.objs.size ob) fp) [] B H' G/\tn i G.heap/\(∀b∈fp,H' b=none)/\W i m B H':=λ{G H10 j} I10 h9=>by
    obtain⟨m',hm,w10⟩:=h9;refine⟨m',hm,i+1,j,H10,I10.jt,T.keep _ _ _ st7 λb hb o e=>(I10.pin (b,o)<|aP _<|aP _<|ig hb e).1,λb hb=>?_,w10⟩;obtain⟨o,e,d⟩:=T.obj _ _ st7 b hb;cb_eq
   cases ok with
   | false=>
    rw[aZ bh]at q9;exact aT ⟨rfl,K I9 q9⟩
   | true=>
    rw[aX rfl]at q9;refine aJ<|p_ (hi2 _ _ _ fp _ s9 σ8 H9 _ I9 q9) λxv G h10=>aJ<|bW ?_;rw[hs2];refine aJ<|aT<|aJ<|cM<|p_ h10 λitv s11 h11=>?_;obtain⟨it2,fp2,tn2,J2,H11,rfl,U,T2,M,f11,goal⟩:=h11;have hcz:=hc;have F:=(λ(Z:Cx) (h1:Z.calm=true) (h2:Z.xe=λ_ _=>False) (h0:Z.A.units+1<cLine) T2 U=>xE (Z:=Z) (t1:=tg) (i1:=iter) (f1:=ifs) (i2:=iter2) (scope:=scope) (pos:=pos) h0 h1 h2 T2 U) _ (show(gQ X scope N _ _ _ fp).calm=true from hcz) rfl (show(gQ X scope N _ _ _ fp).A.units+1<cLine from hu) T2 U M f11 (hg2 _ _ _ fp) (ht2 _ _ _ fp) (hk _ _ _ fp) (hv _ _ _ fp) goal;refine aJ<|wpAny_runOwn<|fD (nv F<|T2.self _ 0 _ _ _ M F) λr s12 hr12=>?_;obtain⟨hr,σ12,H12,I12,n12⟩:=hr12;subst hr;exact aT ⟨rfl,K I12 n12⟩
 exact oA (L _ rfl)<|T.self _ 0 _ _ _ st4<|L _ rfl
end L2
namespace Am
open PySem PySem.Spec PyProof.Rows L2
def Ls{α:Type}{c:Prop}[Decidable c]{r:R α}{a:α}(h:gd c r=.ok a S):c/\r=.ok a S:=by
 unfold gd at h;by_cases hc:c
 ·rw[aX hc]at h;exact⟨hc,h⟩
 ·rw[aZ hc]at h;cases h
def Fl{α:Type}{l m:List α}{n:Nat}{p:α}(h:l <+: m)(e:l[n]?=some p):m[n]?=some p:=by
 obtain⟨t,rfl⟩:=h;rw[aO (aI.mp e).1,e]
abbrev qX (st:A->A->A->gu->R Unit)(s:Src)(g:Tg)(t:Te)(ek ev:Ex)(n:Nat):Nat->Nat->ae->gu->R (ae)
 | 0,_=>λτ S=>if s.fin S then .ok τ S else .no
 | k+1,i=>λτ S=>opt (s.get i S) λx=>(g x τ S).h_ λτ1 S1=>(t τ1 S1).h_ λb S2=>match b with
  | true=>(ek τ1 S2).h_ λy S3=>(ev τ1 S3).h_ λz S4=>(st (.ref n) y z S4).h_ λ_ S5=>qX st s g t ek ev n k (i+1) τ1 S5
  | false=>qX st s g t ek ev n k (i+1) τ1 S2
def Bf{st:A->A->A->gu->R Unit}{s:Src}{g:Tg}{t:Te}{ek ev:Ex}{n k:Nat}{T:Prop}(h:qX st s g t ek ev n (k+1) i τ S=.ok τ' S')
  (q:∀x τ1 S1 b S2,s.get i S=some x->g x τ S=.ok τ1 S1->t τ1 S1=.ok b S2->(b=true->∃y S3 z S4 u S5,ek τ1 S2=.ok y S3/\ev τ1 S3=.ok z S4/\st (.ref n) y z S4=.ok u S5/\qX st s g t ek ev n k (i+1) τ1 S5=.ok τ' S')->(b=false->qX st s g t ek ev n k (i+1) τ1 S2=.ok τ' S')->T):T:=by
 obtain⟨x,hx,h⟩:=qp h;obtain⟨τ1,S1,h1,h⟩:=gU h;obtain⟨b,S2,h2,h⟩:=gU h;kl_no
 ·subst hb;obtain⟨y,S3,j,h⟩:=gU h;obtain⟨z,S4,f,h⟩:=gU h;obtain⟨u,S5,d,h⟩:=gU h;exact⟨y,S3,z,S4,u,S5,j,f,d,h⟩
 ·subst hb;exact h
structure DKind (K:aq)(o:O)(ob:HO)(st:A->A->A->gu->R Unit):Prop where
 obj:∀{P:ah} {w:af} {H:Hp} (h:ak),sysModules<h.objs.size->iJ P w H (h.push { cls:=.type "dict",data:=.dict #[]}) h.objs.size ob
 new:∀{ρ:ba} {H:Hp} {S:gu} {p:aj},Rel K ρ H S->H p=none->Ext ρ (ρ++[p]) H (upd H p ob)/\Rel K (ρ++[p]) (upd H p ob) (S++[o])/\(ρ++[p])[S.length]?=some p
 put:∀{ρ:ba} {H:Hp} {S S':gu} {n:Nat} {p:aj} {y z:A} {vy vz:V} {u:Unit},Rel K ρ H S->ρ[n]?=some p->AV K ρ H y vy->AV K ρ H z vz->st (.ref n) y z S=.ok u S'->∃H',BJ H p vy vz H'/\Ext ρ ρ H H'/\Rel K ρ H' S'
def KG{K:aq}:DKind K (.mE []) (.dK []) oG:=by
 refine⟨λh hb=>Di h hb,λR hp=>R.MH (xs:=[]) (vs:=[]) hp trivial,λ{ρ H S S' n p y z vy vz u} R hp ay az h=>?_⟩;unfold oG at h
 cases y with
 | int k=>
  obtain⟨kvs,hn,h⟩:=qp h;obtain⟨f,h⟩:=Ls h
  cases h
  cases ay
  obtain⟨ks,e,d⟩:=R.mE hp<|lB hn;obtain⟨ex,g⟩:=R.yk hp (lB hn)<|d.put az k;exact⟨_,BJ.k (k:=Sum.inl k) e<|by rw[<- d.length];exact f,ex,g⟩
 | _=>cases h
end Am
namespace L2
open PySem PySem.Spec PyProof.Rows
def Bs{X:Cx}{i:Nat}{spos:Pos}{iter:aC}{N:ap}{wi wi2:TI}{g g2:TG}{tc tc2:TT}{tk tv:TE}{ob:HO}(hob:∀{P:ah}{w:af}{H:Hp}(h:ak),sysModules<h.objs.size->iJ P w H (h.push { cls:=.type "dict",data:=.dict #[]}) h.objs.size ob)(hu:X.A.units+1<cLine)
  (hN:X.N.Nodup) (hi':X.N[i]?=some y) (hx:Loc X.env.scope y) (hc:X.calm=true) (S:CpScope X scope N cap) (hi:PI X tg iter wi)
  (hg:∀C s₀ H₀ ex,PG (gQ X scope N C s₀ H₀ ex) tg g) (ht:∀C s₀ H₀ ex,yb (gQ X scope N C s₀ H₀ ex) ifs tc) (hi2:∀C s₀ H₀ ex,PI (gQ X scope N C s₀ H₀ ex) tg2 iter2 wi2)
  (hg2:∀C s₀ H₀ ex,PG (gQ X scope N C s₀ H₀ ex) tg2 g2) (ht2:∀C s₀ H₀ ex,yb (gQ X scope N C s₀ H₀ ex) ifs2 tc2) (hk:∀C s₀ H₀ ex,PE (gQ X scope N C s₀ H₀ ex) ek tk) (hv:∀C s₀ H₀ ex,PE (gQ X scope N C s₀ H₀ ex) ev tv)
  (hsw:swapsWith (.DictComp ek ev [⟨tg,iter,ifs,0⟩,⟨tg2,iter2,ifs2,0⟩] scope pos) (some<|.Name y py) spos.line X.env=pure true)
  (hf:X.fn y=true\/X.env.scope.names.lookup y=some .local) (hs:∀x,foldedSetIterable iter X.env x=pure x:=by intro _;rfl) (hs2:∀env x,foldedSetIterable iter2 env x=pure x:=by intro _ _;rfl) :
  PS X (.Assign [.Name y py] (.DictComp ek ev [⟨tg,iter,ifs,0⟩,⟨tg2,iter2,ifs2,0⟩] scope pos) spos) (Cy (IX ob cap wi g tc wi2 g2 tc2 tk tv)<|zG i):=by
 kpf_c;rw[exec_Assign_Name_used _ _ _ _ hsw];refine aJ<|bW<|aJ ?_;show wpAny _ X.A (do let _ <- comprehension (.DictComp ek ev [⟨tg,iter,ifs,0⟩,⟨tg2,iter2,ifs2,0⟩] scope pos) scope X.env (firstIterPos [⟨tg,iter,ifs,0⟩,⟨tg2,iter2,ifs2,0⟩] pos) newDict (firstAsync [⟨tg,iter,ifs,0⟩,⟨tg2,iter2,ifs2,0⟩]) (firstIter [⟨tg,iter,ifs,0⟩,⟨tg2,iter2,ifs2,0⟩] X.env) (some<|assign (.Name y py) X.env)) _ _ s;refine aJ<|cS (G3 (Q':=λ_ s'=>SP X pins D .next s') hob hu hc S hi hg ht hi2 hg2 ht2 hk hv hs hs2 pins s σ H _ I h ?_) (λ_ s' U=>aT<|aT U) λ_ _ e=>e;intro t C B H5 m hn j F q v;have M:=F t.heap<|Heap.SameBut.refl _ _;obtain⟨J,f⟩:∃o,t.heap.get? C=some o/\∀v,o.data≠.cell v:=by
  obtain⟨o,es,V,e,d,_⟩:=hn;exact⟨o,e,λv z=>by rw[d]at z;cases z⟩
 have O:=M.pinned (fp:=[C]) (λb hb=>by rw[aQ]at hb;rw[hb];exact j) (λb hb=>by rw[aQ]at hb;rw[hb];exact⟨J,f⟩);show wpAny _ X.A (assign (.Name y py) X.env<|.ref B) _ _ t;refine iN (vA hN hi' hx hf _ t σ H5 (.ref B) (.ref B) _ O rfl q) λ_ s7 h9=>?_;obtain⟨G,H7,I7,L⟩:=h9;have hp:=I7.pin (C,J)<|aP _<|aP _<|ig (aQ.mpr rfl) f.1;refine⟨m,hn.at' λo e=>by rw[f.1]at e;cases e;exact hp.1,λh' k=>?_⟩;have K:∀c v,H7 c=some v->c≠C:=λc v e z=>by rw[z,hp.2.1]at e;cases e
 refine⟨G,H7,?_,L⟩;refine I7.jt.wj (ch:=[C]) rfl ⟨λb o e n hb hx=>?_,λb o e n hb hx=>?_,λb o e n hx=>n,λb o e hx=>?_,λ_ _ e=>e,λ_ _ _ e=>e,λ_ _ e=>⟨#[],by rw[Array.append_empty];exact e⟩⟩ ?_ I7.bare ?_
 ·exact k.extBut b o (by simpa using hx) e
 ·exact⟨o.slots,k.extBut b o (by simpa using hx) e⟩
 ·exact⟨o,k.extBut b o (by simpa using hx) e⟩
 ·intro b o e;refine(I7.hok b o e).stay (λc v hc q=>k.extBut c v ?_ q) (λ_ q=>q) λ_ _ q=>q
  rcases hc with z|z
  ·rw[z];exact K b o e
  ·exact K c _ z
 ·intro b hb;rw[aQ]at hb;rw[hb];exact⟨j.2.2.2.1,j.2.1,j.2.2.2.2.1,j.2.2.2.2.2⟩
end L2
namespace Am
open PySem PySem.Spec PyProof.Rows L2
abbrev nj (st:A->A->A->gu->R Unit)(s:Src)(g:Tg)(t:Te)(src2:Ic)(g2:Tg)(t2:Te)(ek ev:Ex)(n:Nat):Nat->Nat->ae->gu->R (ae)
 | 0,_=>λτ S=>if s.fin S then .ok τ S else .no
 | k+1,i=>λτ S=>opt (s.get i S) λx=>(g x τ S).h_ λτ1 S1=>(t τ1 S1).h_ λb S2=>match b with
  | true=>(src2 τ1 S2).h_ λf S3=>(qX st f g2 t2 ek ev n f.k 0 τ1 S3).h_ λd S4=>nj st s g t src2 g2 t2 ek ev n k (i+1) d S4
  | false=>nj st s g t src2 g2 t2 ek ev n k (i+1) τ1 S2
abbrev Fd (o:O)(st:A->A->A->gu->R Unit)(cap:List<|bj)(src:Ic)(g:Tg)(t:Te)(src2:Ic)(g2:Tg)(t2:Te)(ek ev:Ex):Ex:=λτ S=>(src τ S).bind λs S1=>(nj st s g t src2 g2 t2 ek ev S1.length s.k 0 (jJ cap τ)<|S1++[o]).h_ λ_ S2=>.ok (.ref S1.length) S2
def yp{st:A->A->A->gu->R Unit}{s:Src}{g:Tg}{t:Te}{src2:Ic}{g2:Tg}{t2:Te}{ek ev:Ex}{n k:Nat}{T:Prop}(h:nj st s g t src2 g2 t2 ek ev n (k+1) i τ S=.ok τ' S')
  (q:∀x τ1 S1 b S2,s.get i S=some x->g x τ S=.ok τ1 S1->t τ1 S1=.ok b S2->(b=true->∃s2 S3 τ2 S4,src2 τ1 S2=.ok s2 S3/\qX st s2 g2 t2 ek ev n s2.k 0 τ1 S3=.ok τ2 S4/\nj st s g t src2 g2 t2 ek ev n k (i+1) τ2 S4=.ok τ' S')->(b=false->nj st s g t src2 g2 t2 ek ev n k (i+1) τ1 S2=.ok τ' S')->T):T:=by
 obtain⟨x,hx,h⟩:=qp h;obtain⟨τ1,S1,h1,h⟩:=gU h;obtain⟨b,S2,h2,h⟩:=gU h;kl_no
 ·subst hb;obtain⟨s2,S3,f,h⟩:=gU h;obtain⟨τ2,S4,d,h⟩:=gU h;exact⟨s2,S3,τ2,S4,f,d,h⟩
 ·subst hb;exact h
section
variable {X:Cx}{pos:Pos}{tg iter tg2 iter2 ek ev:aC}{ifs ifs2:List aC}{scope:Scope}{N:ap}{cap:List (bj)}{src src2:Ic}{g g2:Tg}{t t2:Te}{ck cv:Ex}{o:O}{ob:HO}{st:A->A->A->gu->R Unit}
def Gb(dk:DKind X.K o ob st)(σ:L2.St)(H:Hp)(Q:VK)(h9:tE X (Fd o st cap src g t src2 g2 t2 ck cv) σ H Q):IX ob cap (tI X src) (FE X.K g) (Dj X.K t) (Ma X.K src2) (FE X.K g2) (Dj X.K t2) (Gq X.K ck) (Gq X.K cv) σ H Q:=by
 z_go;refine⟨ρ,S,τ,R,r,gv (gz h) .refl λs S1 h1 ρ1 H1 J e1 R1 jr D hD=>?_⟩;obtain⟨τ2,S2,hcg,h1⟩:=oK h1;have h1:rL X ρ H Q (.ref S1.length) S2:=h1;obtain⟨eD,RD,atD⟩:=dk.new R1 hD;refine⟨λi m U H'=>∃ρ' S' B,i+m=s.k/\Ext (ρ1++[D]) ρ' (upd H1 D ob) H'/\Rel X.K ρ' H' S'/\SR X.K ρ' H' B U/\nj st s g t src2 g2 t2 ck cv S1.length m i B S'=.ok τ2 S2,⟨s.k,ρ1++[D],S1++[o],jJ cap τ,(),.refl,RD,D8 ((r.ext e1).ext eD) cap,hcg⟩,?_⟩;rintro i m σ3 H3 ⟨ρ3,S3,τ3,hm,e3,R3,r3,j⟩;have at3:ρ3[S1.length]?=some D:=Fl e3.pre atD;have Y:=eD.trans e3
 cases m with
 | zero=>
  left;have j:(if s.fin S3 then Am.R.ok τ3 S3 else .no)=.ok τ2 S2:=j
  cases hf:s.fin S3 with
  | false=>rw[hf]at j;cases j
  | true=>
   rw[hf]at j
   cases j
   exact⟨by rw[show i=s.k by lia];exact jr.stop _ H3 ρ3 Y.toExt0 R3 hf,h1 ρ3 H3 _ (e1.trans Y) R3<|.ref at3⟩
 | succ m=>
  right;refine yp j λx τ4 S4 b S5 hx hg4 ht5 hT hF=>?_;have jg:=jr.go i S3 H3 ρ3 x Y.toExt0 R3 hx;refine⟨jg.1,λv H4 y=>?_⟩;obtain⟨e4,R4,v4⟩:=jg.2 v H4 y;gp_on;have e36:=(e4.trans e5).trans e6
  cases b with
  | false=>
   dsimp only;rw[aZ bh];exact⟨m,bw _,ρ6,S5,τ4,(),e3.trans e36,R6,r5.ext e6,hF rfl⟩
  | true=>
   dsimp only;rw[aX rfl];obtain⟨V,S6,τ7,S7,hs6,ci7,co7⟩:=hT rfl;refine⟨ρ6,S5,τ4,V,S6,R6,r5.ext e6,hs6,λρ8 H8 J2 e8 R8 jr2=>?_⟩;have e38:=e36.trans e8;refine⟨λi2 Z U H'=>∃ρ' S' B,i2+Z=V.k/\Ext ρ8 ρ' H8 H'/\Rel X.K ρ' H' S'/\SR X.K ρ' H' B U/\qX st V g2 t2 ck cv S1.length Z i2 B S'=.ok τ7 S7,⟨V.k,ρ8,S6,τ4,(),.refl,R8,r5.ext<|e6.trans e8,ci7⟩,?_⟩;rintro i2 Z σ9 H9 ⟨L,S9,τ9,hm2,e9,R9,r9,f⟩
   cases Z with
   | zero=>
    left;have f:(if V.fin S9 then Am.R.ok τ9 S9 else .no)=.ok τ7 S7:=f
    cases hf:V.fin S9 with
    | false=>rw[hf]at f;cases f
    | true=>
     rw[hf]at f
     cases f
     exact⟨by rw[show i2=V.k by lia];exact jr2.stop _ H9 L e9.toExt0 R9 hf,m,bw _,L,_,_,(),(e3.trans e38).trans e9,R9,r9,co7⟩
   | succ Z=>
    right;refine Bf f λx9 d S10 b10 P hx9 hg10 ht11 hT9 hF9=>?_;have jg2:=jr2.go i2 S9 H9 L x9 e9.toExt0 R9 hx9;refine⟨jg2.1,λv10 H10 y10=>?_⟩;obtain⟨e10,R10,v10'⟩:=jg2.2 v10 H10 y10;refine⟨L,S9,τ9,x9,d,S10,R10,r9.ext e10,v10',hg10,λρ11 H11 σ11 e11 R11 C=>⟨ρ11,S10,d,b10,P,R11,C,ht11,λN H12 F R12=>?_⟩⟩;have O:=(e10.trans e11).trans F
    cases b10 with
    | false=>
     dsimp only;rw[aZ bh];exact⟨Z,bw _,N,P,d,(),e9.trans O,R12,C.ext F,hF9 rfl⟩
    | true=>
     dsimp only;rw[aX rfl];obtain⟨y,S13,z,S14,u,S15,hy,hz,hst,cg15⟩:=hT9 rfl;refine⟨N,P,d,y,S13,R12,C.ext F,hy,λρ13 H13 vy G R13 a13=>⟨ρ13,S13,d,z,S14,R13,C.ext<|F.trans G,hz,λρ14 H14 vz W R14 a14=>?_⟩⟩;have M:=(O.trans G).trans W;obtain⟨H15,dp,e15,R15⟩:=dk.put R14 (Fl (((e3.trans e38).trans e9).trans M).pre atD) (a13.ext W) a14 hst;exact⟨H15,dp,Z,bw _,ρ14,S15,d,(),(e9.trans M).trans e15,R15,C.ext<|((F.trans G).trans W).trans e15,cg15⟩
def BG(dk:∀K,DKind K o ob st)(hu:X.A.units+64<cLine){i:Nat}{x:Str}{spos:Pos}(hN:X.N.Nodup)(hc:X.calm=true)(Sc:CpScope X scope N cap)(hi:AI X tg iter src)(hg:∀C s₀ H₀ ex,AG (gQ X scope N C s₀ H₀ ex) tg g)(ht:∀C s₀ H₀ ex,Hz (gQ X scope N C s₀ H₀ ex) ifs t)(hi2:∀C s₀ H₀ ex,AI (gQ X scope N C s₀ H₀ ex) tg2 iter2 src2)
  (hg2:∀C s₀ H₀ ex,AG (gQ X scope N C s₀ H₀ ex) tg2 g2) (ht2:∀C s₀ H₀ ex,Hz (gQ X scope N C s₀ H₀ ex) ifs2 t2) (hk:∀C s₀ H₀ ex,AE (gQ X scope N C s₀ H₀ ex) ek ck) (hv:∀C s₀ H₀ ex,AE (gQ X scope N C s₀ H₀ ex) ev cv)
  (hi':X.N[i]?=some x:=by rfl) (hx:Loc X.env.scope x:=by first|exact Or.inl rfl|exact Or.inr rfl)
  (hsw:swapsWith (.DictComp ek ev [⟨tg,iter,ifs,0⟩,⟨tg2,iter2,ifs2,0⟩] scope pos) (some<|.Name x pos') spos.line X.env=pure true:=by rfl) (hf:X.fn x=true\/X.env.scope.names.lookup x=some .local:=by first|exact .inl rfl|exact .inr rfl|assumption)
  (hs:∀x,foldedSetIterable iter X.env x=pure x:=by intro _;rfl) (hs2:∀env x,foldedSetIterable iter2 env x=pure x:=by intro _ _;rfl):AS X (.Assign [.Name x pos'] (.DictComp ek ev [⟨tg,iter,ifs,0⟩,⟨tg2,iter2,ifs2,0⟩] scope pos) spos) (g_ (Fd o st cap src g t src2 g2 t2 ck cv)<|gW i):=
 PS.imp (Bs (dk X.K).obj () hN hi' hx hc Sc hi (g:=FE X.K g) (tc:=Dj X.K t) (wi2:=Ma X.K src2) (g2:=FE X.K g2) (tc2:=Dj X.K t2) (tk:=Gq X.K ck) (tv:=Gq X.K cv) (λC s₀ H₀ ex=>(hg C s₀ H₀ ex).g0 rfl) (λC s₀ H₀ ex=>ht C s₀ H₀ ex) (λC s₀ H₀ ex=>(hi2 C s₀ H₀ ex).i0 rfl) (λC s₀ H₀ ex=>(hg2 C s₀ H₀ ex).g0 rfl) (λC s₀ H₀ ex=>ht2 C s₀ H₀ ex) (λC s₀ H₀ ex=>(hk C s₀ H₀ ex).e0 rfl) (λC s₀ H₀ ex=>(hv C s₀ H₀ ex).e0 rfl) hsw hf hs hs2) λD σ H ⟨ρ,S,τ,R,r,h⟩=>
  Gb (dk X.K) σ H _ ⟨ρ,S,τ,R,r,gv (of_post h) .refl λa S1 h1 ρ1 H1 x e1 f d=>h1 ρ1 H1 _ e1 f<|(r.ext e1).set d⟩
end
abbrev El (x:A)(S:gu):R A:=match x with
 | .ref n=>opt (nG S n) λkvs=>.ok (.int kvs.length) S
 | _=>.no
def GC{n:Nat}:El (.ref n) S=opt (nG S n) λkvs=>.ok (.int kvs.length) S:=rfl
def JW:ir X (.builtin "len") (rN X<|f1 El):=λpins s σ H xs us Q I r h0=>by
 ksr_p;clear h0
 cases hv with
 | ref hp=>
  obtain⟨kvs,hn,h⟩:=gE h;obtain⟨ks,e,d⟩:=R.mE hp<|lB hn;obtain⟨u,rfl,rx⟩:=vals1 r
  cases rx
  exact Ky I (.inl e) λt s' f=>⟨.int ks.length,H,f,⟨_,rfl⟩,by rw[<- d.length];exact h _ _ _ .refl R<|.int _⟩
 | _=>exact h.elim
end Am
namespace K58
open PySem L2 Am
abbrev top (i:Nat):aE:=PySem.Challenge.pw_undercells_k58_rows_back.main.body.getD i<|.Pass ⟨0,0,0,0⟩
meta abbrev pL:aE:=top 4
meta abbrev oU:ap:=["thing"]
meta abbrev pG:ap:=["thing"]
abbrev oO:Sm:=
 iS (q_ (gI (f2 rj)<|gn (gk 0)<|gn (eC<|.ty "int") gy)<|DY<|gI (f2 rj)<|gn (gk 0)<|gn (eC<|.ty "bool") gy)
abbrev kH:ae->gu->R A:=jK oU oO
meta abbrev nN:aE:=top 8
meta abbrev nX:ap:=["thing"]
meta abbrev n6:ap:=["thing"]
abbrev nV:Sm:=
 iS (q_ (eFn kH<|gn (gk 0) gy)<|LU Ht Ht (eC<|.int 1) (gk 0)<|eC<|.int 1000000000)
abbrev jA:ae->gu->R A:=jK nX nV
meta abbrev m8:aE:=top 9
meta abbrev m5:ap:=["thing"]
meta abbrev nc:ap:=["thing"]
abbrev m9:Sm:=
 iS (q_ (gI (f2 rj)<|gn (gk 0)<|gn (eC<|.ty "list") gy)<|gI (f1 wY)<|gn (iI [none] (jq<|gk 0) (gW 0) iL<|eFn jA<|gn (gk 0) gy) gy)
abbrev jI:ae->gu->R A:=jK m5 m9
meta abbrev kW:aE:=top 10
meta abbrev kQ:ap:=["thing"]
meta abbrev kM:ap:=["thing"]
abbrev kE:Sm:=
 iS (q_ (eFn jI<|gn (gk 0) gy)<|q_ (gC GN (gI (f1 jd)<|gn (gk 0) gy)<|eC<|.int 0)<|gC (qN false) (gk 0)<|gI (f1 sP)<|gn (gk 0) gy)
abbrev iG:ae->gu->R A:=jK kQ kE
meta abbrev mO:aE:=top 11
meta abbrev mW:ap:=["row", "above"]
meta abbrev mL:ap:=["row", "above"]
abbrev mZ:Sm:=
 iS (q_ (gC Ht (gI (f1 jd)<|gn (gk 0) gy)<|gI (f1 jd)<|gn (gk 1) gy)<|gI (f1 wY)<|gn (iI [none,none] (uh (gk 1)<|gk 0) (DQ 2<|uD (gW 0)<|uD (gW 1) Cs) iL<|gC F5 (gk 0)<|gk 1) gy)
abbrev iR:ae->gu->R A:=jK mW mZ
meta abbrev pI:aE:=top 12
meta abbrev oW:ap:=["thing"]
meta abbrev oR:ap:=["thing"]
abbrev pB:Sm:=
 gP (sS (Bw (su<|rz<|gI (f2 rj)<|gn (gk 0)<|gn (eC<|.ty "list") gy)<|su<|rz<|gI (f1 wY)<|gn (iI [none] (jq<|gk 0) (gW 0) iL<|eFn iG<|gn (gk 0) gy) gy)
 (iS<|eC<|.bl false)
 kg)
 (iS<|gI (f1 wY)<|gn (iI [none,some 0] (qP (eC<|.int 1)<|gI (f1 jd)<|gn (gk 0) gy) (gW 0) iL<|eFn iR<|gn (gC j5 (gk 1)<|gk 0)<|gn (gC j5 (gk 1)<|gC aSub (gk 0)<|eC<|.int 1) gy) gy)
abbrev jR:ae->gu->R A:=jK oW pB
meta abbrev sq:aE:=top 13
meta abbrev sj:ap:=["table"]
meta abbrev sR:ap:=["table"]
abbrev sN:Sm:=
 iS (iI [none] (jq<|gk 0) (gW 0) iL<|gI (f1 mF)<|gn (gk 0) gy)
abbrev nQ:ae->gu->R A:=jK sj sN
meta abbrev uY:aE:=top 14
meta abbrev rE:ap:=["table"]
meta abbrev uT:ap:=["table"]
abbrev rD:Sm:=
 iS (iI [none] (jq<|gk 0) (gW 0) iL<|gI (f1 jd)<|gn (gk 0) gy)
abbrev lC:ae->gu->R A:=jK rE rD
meta abbrev jj:aE:=top 15
meta abbrev jn:ap:=["first", "second", "numbers"]
meta abbrev jm:ap:=["first", "second"]
abbrev jk:Sm:=
 gP (sS (Bw (su<|rz<|eFn jR<|gn (gk 0) gy)<|Bw (su<|rz<|eFn jR<|gn (gk 1) gy)<|p7<|gC (qN true) (eFn lC<|gn (gk 0) gy)<|eFn lC<|gn (gk 1) gy)
 (iS<|eC<|.bl false)
 kg)
 (gP (g_ (gI (f1 sP)<|gn (uM [none,none] (jq<|gk 1) (gW 0) iL (jq<|gk 0) (gW 1) iL<|gk 1) gy)<|gW 2)
 (iS<|q_ (gC Ht (gI (f1 jd)<|gn (gk 2) gy)<|eC<|.int 40)<|gC (qN false) (gk 2)<|gI (f1 mF)<|gn (gI (f2 u0)<|gn (eC<|.int 1)<|gn (gC mh (gI (f1 jd)<|gn (gk 2) gy)<|eC<|.int 1) gy) gy))
abbrev iB:ae->gu->R A:=jK jn jk
meta abbrev kJ:aE:=top 16
meta abbrev kN:ap:=["row", "letter", "place"]
meta abbrev kB:ap:=["row", "letter"]
abbrev mD:Te:=
 p7 (gC Lx (gC j5 (gk 0)<|gk 2)<|gk 1)
abbrev mC:Sm:=
 Ey 2 aSub (eC<|.int 1)
abbrev kP:Sm:=
 gP (g_ (gC aSub (gI (f1 jd)<|gn (gk 0) gy)<|eC<|.int 1)<|gW 2)
 (gP (jF mD
 mC 1000000)
 (iS<|gk 2))
abbrev i7:ae->gu->R A:=jK kN kP
meta abbrev pe:aE:=top 17
meta abbrev pD:ap:=["rows", "at", "letter", "up", "place"]
meta abbrev pA:ap:=["rows", "at"]
abbrev p9:Ic:=
 vY (gC aSub (gk 1)<|eC<|.int 1) (G2 yc<|eC<|.int 1) (G2 yc<|eC<|.int 1)
abbrev qb:Sm:=
 gP (g_ (eFn i7<|gn (gC j5 (gk 0)<|gk 3)<|gn (gk 2) gy)<|gW 4)
 (g_ (Bd<|gn (gk 2)<|gn (gC j5 (gC j5 (gk 0)<|gk 3)<|gk 4) gy)<|DQ 2<|uD (Kq (gC j5 (gk 0)<|gk 3)<|gk 4)<|uD (gW 2) Cs)
abbrev oY:Sm:=
 gP (g_ (IF Ir<|gC j5 (gk 0)<|gk 1)<|gW 2)
 (gP (lU p9 (gW 3)
 qb)
 (iS<|gk 2))
abbrev kD:ae->gu->R A:=jK pD oY
meta abbrev o8:aE:=top 18
meta abbrev pF:ap:=["first", "second", "rows", "row_of", "told", "number"]
meta abbrev pC:ap:=["first", "second"]
abbrev qg:Ic:=
 vY (gI (f1 El)<|gn (gk 3) gy) (eC<|.int 0) (G2 yc<|eC<|.int 1)
abbrev qe:Sm:=
 mH (BA jb (gk 4)<|gn (eFn kD<|gn (gk 2)<|gn (gC BN (gk 3)<|gk 5) gy) gy)
abbrev pM:Sm:=
 gP (sS (su<|rz<|eFn iB<|gn (gk 0)<|gn (gk 1) gy)
 (Nv)
 kg)
 (gP (g_ (eFn nQ<|gn (gk 0) gy)<|gW 2)
 (gP (g_ (Fd (.mE []) oG [none,none,none] (DZ<|gk 1) (DQ 2<|uD (gW 0)<|uD (gW 1) Cs) iL (jq<|gk 1) (gW 2) iL (gk 2)<|gk 0)<|gW 3)
 (gP (g_ (ko gy)<|gW 4)
 (gP (lU qg (gW 5)
 qe)
 (iS<|G2 Es<|gk 4)))))
abbrev jP:ae->gu->R A:=jK pF pM
meta abbrev qA:aE:=top 20
meta abbrev qJ:ap:=["_law_script", "_law_at", "_law_cell", "_law_great"]
meta abbrev qF:ap:=["_law_script", "_law_at"]
abbrev qx:Sm:=
 gP (g_ (eC<|.int 0)<|gW 2)
 (gP (sS (p7<|gC F5 (gk 1)<|gI (f1 jd)<|gn (gk 0) gy)
 (g_ (gC j5 (gk 0)<|gk 1)<|gW 2)
 kg)
 (gP (g_ (eC<|.int 0)<|gW 3)
 (gP (sS (p7<|gC Lx (gk 2)<|gC BS (eC<|.int 10)<|eC<|.int 18)
 (g_ (gk 2)<|gW 3)
 kg)
 (iS<|ko<|gn (gk 3)<|gn (gC u5 (gC mh (gC mh (gk 2)<|gC yd (eC<|.int 7919)<|gk 1)<|eC<|.int 13)<|eC<|.int 2147483647) gy))))
abbrev mw:ae->gu->R A:=jK qJ qx
meta abbrev nI:aE:=top 21
meta abbrev k_:ap:=["_law_bag_here", "_law_many", "_law_found"]
meta abbrev i_:ap:=["_law_bag_here", "_law_many"]
abbrev ly:Sm:=
 gP (sS (p7<|gC GN (gC j5 (gk 0)<|eC<|.int 0)<|eC<|.int 0)
 (gP (g_ (gC u5 (gC j5 (gk 0)<|eC<|.int 0)<|gk 1)<|gW 2)
 (gP (g_ (gC As (gC j5 (gk 0)<|eC<|.int 0)<|gk 1)<|Kq (gk 0)<|eC<|.int 0)
 (iS<|gk 2)))
 kg)
 (gP (g_ (gC u5 (gC mh (gC yd (gC j5 (gk 0)<|eC<|.int 1)<|eC<|.int 48271)<|eC<|.int 11)<|eC<|.int 2147483647)<|Kq (gk 0)<|eC<|.int 1)
 (iS<|gC u5 (gC u5 (gC yd (gC As (gC j5 (gk 0)<|eC<|.int 1)<|eC<|.int 8)<|eC<|.int 69621)<|eC<|.int 2147483629)<|gk 1))
abbrev gK:ae->gu->R A:=jK k_ ly
meta abbrev lR:aE:=top 22
meta abbrev lV:ap:=["_law_bag_here", "_law_most", "_law_many", "_law_way", "_law_base", "_law_made", "_law_k", "_law_letter"]
meta abbrev lO:ap:=["_law_bag_here", "_law_most"]
abbrev rg:Ic:=
 j_ (gk 2)
abbrev ng:Sm:=
 gP (g_ (gC mh (eC<|.int 1)<|eFn gK<|gn (gk 0)<|gn (gk 4) gy)<|gW 7)
 (gP (sS (EG (p7<|gC (qN false) (gk 3)<|eC<|.int 3)<|p7<|gC (Nl false) (gk 7)<|gk 5)
 (g_ (gC mh (eC<|.int 41)<|gk 6)<|gW 7)
 kg)
 (mH<|BA jb (gk 5)<|gn (gk 7) gy))
abbrev lJ:Sm:=
 gP (g_ (eFn gK<|gn (gk 0)<|gn (gC mh (gk 1)<|eC<|.int 1) gy)<|gW 2)
 (gP (g_ (eFn gK<|gn (gk 0)<|gn (eC<|.int 4) gy)<|gW 3)
 (gP (g_ (gC j5 (ko<|gn (eC<|.int 3)<|gn (eC<|.int 6)<|gn (gC BS (eC<|.int 10)<|eC<|.int 9)<|gn (eC<|.int 40) gy)<|gk 3)<|gW 4)
 (gP (g_ (ko gy)<|gW 5)
 (gP (lU rg (gW 6)
 ng)
 (iS<|gk 5)))))
abbrev jv:ae->gu->R A:=jK lV lJ
meta abbrev qI:aE:=top 23
meta abbrev qu:ap:=["_law_rows", "_law_letter", "_law_made", "_law_row", "_law_greater"]
meta abbrev qy:ap:=["_law_rows", "_law_letter"]
abbrev vO:Ic:=
 jq (gk 2)
abbrev qV:Sm:=
 gP (g_ (iI [none,some 1,some 3] (j_<|gI (f1 jd)<|gn (gk 3) gy) (gW 0) (p7<|gC GN (gC j5 (gk 2)<|gk 0)<|gk 1)<|gk 0)<|gW 4)
 (gP (sS (p7<|gC (qN false) (gk 4)<|ko gy)
 (gP (mH<|BA jb (gk 3)<|gn (gk 1) gy)
 (iS<|gk 2))
 kg)
 (g_ (Bd<|gn (gk 1)<|gn (gC j5 (gk 3)<|gC j5 (gk 4)<|eC<|.int 0) gy)<|DQ 2<|uD (Kq (gk 3)<|gC j5 (gk 4)<|eC<|.int 0)<|uD (gW 1) Cs))
abbrev qL:Sm:=
 gP (g_ (iI [none] (jq<|gk 0) (gW 0) iL<|gI (f1 mF)<|gn (gk 0) gy)<|gW 2)
 (gP (lU vO (gW 3)
 qV)
 (iS<|gC mh (gk 2)<|ko<|gn (ko<|gn (gk 1) gy) gy))
abbrev mj:ae->gu->R A:=jK qu qL
meta abbrev mY:aE:=top 24
meta abbrev mP:ap:=["_law_letters_here", "_law_first_here", "_law_second_here", "_law_k", "_law_more", "_law_at"]
meta abbrev mT:ap:=["_law_letters_here"]
abbrev sG:Ic:=
 j_ (gI (f1 jd)<|gn (gk 0) gy)
abbrev nF:Sm:=
 gP (g_ (eFn mj<|gn (gk 1)<|gn (gC j5 (gk 0)<|gk 3) gy)<|gW 4)
 (gP (g_ (gC j5 (iI [none,some 1,some 4] (j_<|gI (f1 jd)<|gn (gk 4) gy) (gW 0) (Bw (p7<|gC (qN false) (gk 0)<|gI (f1 jd)<|gn (gk 1) gy)<|p7<|gC F5 (gI (f1 jd)<|gn (gC j5 (gk 1)<|gk 0) gy)<|gI (f1 jd)<|gn (gC j5 (gk 2)<|gk 0) gy)<|gk 0)<|eC<|.int 0)<|gW 5)
 (gP (sS (p7<|gC (qN false) (gk 5)<|gI (f1 jd)<|gn (gk 2) gy)
 (mH<|BA jb (gk 2)<|gn (ko gy) gy)
 kg)
 (gP (mH<|BA jb (gC j5 (gk 2)<|gk 5)<|gn (gC mh (gk 3)<|eC<|.int 1) gy)
 (g_ (gk 4)<|gW 1))))
abbrev mK:Sm:=
 gP (g_ (ko gy)<|gW 1)
 (gP (g_ (ko gy)<|gW 2)
 (gP (lU sG (gW 3)
 nF)
 (iS<|Bd<|gn (gk 1)<|gn (gk 2) gy)))
abbrev je:ae->gu->R A:=jK mP mK
meta abbrev lS:aE:=top 25
meta abbrev l_:ap:=["_law_found", "_law_due", "_law_row"]
meta abbrev lY:ap:=["_law_found", "_law_due"]
abbrev rm:Ic:=
 jq (gk 0)
abbrev nh:Sm:=
 gP (sS (su<|rz<|gI (f2 rj)<|gn (gk 2)<|gn (eC<|.ty "list") gy)
 (iS<|eC<|.bl false)
 kg)
 (sS (su<|rz<|gI (f1 wY)<|gn (iI [none] (jq<|gk 2) (gW 0) iL<|q_ (gI (f2 rj)<|gn (gk 0)<|gn (eC<|.ty "int") gy)<|DY<|gI (f2 rj)<|gn (gk 0)<|gn (eC<|.ty "bool") gy) gy)
 (iS<|eC<|.bl false)
 kg)
abbrev lN:Sm:=
 gP (sS (Bw (su<|rz<|gI (f2 rj)<|gn (gk 0)<|gn (eC<|.ty "list") gy)<|p7<|gC (qN true) (gk 0)<|gk 1)
 (iS<|eC<|.bl false)
 kg)
 (gP (lU rm (gW 2)
 nh)
 (iS<|eC<|.bl true))
abbrev jw:ae->gu->R A:=jK l_ lN
meta abbrev lK:aE:=top 26
meta abbrev lG:ap:=["_law_bag_here", "_law_made", "_law_most", "_law_k"]
meta abbrev lZ:ap:=["_law_bag_here"]
abbrev ni:Ic:=
 j_ (gC mh (eC<|.int 1)<|eFn gK<|gn (gk 0)<|gn (eC<|.int 5) gy)
abbrev nq:Sm:=
 gP (mH<|BA jb (gk 1)<|gn (gC mh (eC<|.int 1)<|eFn gK<|gn (gk 0)<|gn (gk 2) gy) gy)
 (g_ (gC j5 (gk 1)<|G2 yc<|eC<|.int 1)<|gW 2)
abbrev lX:Sm:=
 gP (g_ (ko gy)<|gW 1)
 (gP (g_ (gC mh (eC<|.int 1)<|eFn gK<|gn (gk 0)<|gn (eC<|.int 7) gy)<|gW 2)
 (gP (lU ni (gW 3)
 nq)
 (iS<|gk 1)))
abbrev jo:ae->gu->R A:=jK lG lX
meta abbrev nK:aE:=top 27
meta abbrev nW:ap:=["_law_bag_here", "_law_lengths_here", "_law_made", "_law_at", "_law_row", "_law_k", "_law_least"]
meta abbrev n5:ap:=["_law_bag_here", "_law_lengths_here"]
abbrev lH:Ic:=
 j_ (gC j5 (gk 1)<|gk 3)
abbrev l7:Sm:=
 gP (g_ (eC<|.int 1)<|gW 6)
 (gP (sS (p7<|gC GN (gk 3)<|eC<|.int 0)
 (g_ (gC mh (gC j5 (gC j5 (gk 2)<|gC aSub (gk 3)<|eC<|.int 1)<|gk 5)<|eC<|.int 1)<|gW 6)
 kg)
 (gP (sS (p7<|gC GN (gk 5)<|eC<|.int 0)
 (g_ (gI (f2 w6)<|gn (gk 6)<|gn (gC j5 (gk 4)<|gC aSub (gk 5)<|eC<|.int 1) gy)<|gW 6)
 kg)
 (mH<|BA jb (gk 4)<|gn (gC mh (gk 6)<|gC j5 (ko<|gn (eC<|.int 0)<|gn (eC<|.int 0)<|gn (eC<|.int 1)<|gn (eC<|.int 3) gy)<|eFn gK<|gn (gk 0)<|gn (eC<|.int 4) gy) gy)))
abbrev oF:Ic:=
 j_ (gI (f1 jd)<|gn (gk 1) gy)
abbrev oE:Sm:=
 gP (g_ (ko gy)<|gW 4)
 (gP (lU lH (gW 5)
 l7)
 (mH<|BA jb (gk 2)<|gn (gk 4) gy))
abbrev n_:Sm:=
 gP (g_ (ko gy)<|gW 2)
 (gP (lU oF (gW 3)
 oE)
 (iS<|gk 2))
abbrev jX:ae->gu->R A:=jK nW n_
meta abbrev mS:aE:=top 28
meta abbrev mR:ap:=["_law_bag_here", "_law_lengths_here", "_law_made", "_law_number", "_law_some", "_law_at", "_law_room"]
meta abbrev mU:ap:=["_law_bag_here", "_law_lengths_here"]
abbrev kr:Ic:=
 j_ (gI (f1 jd)<|gn (gk 1) gy)
abbrev kK:Sm:=
 gP (g_ (gC F5 (gI (f1 jd)<|gn (gC j5 (gk 2)<|gk 5) gy)<|gC j5 (gk 1)<|gk 5)<|gW 6)
 (sS (EG (rz<|gk 6)<|Bw (p7<|gC (qN false) (gk 5)<|eC<|.int 0)<|p7<|gC GN (gI (f1 jd)<|gn (gC j5 (gk 2)<|gC aSub (gk 5)<|eC<|.int 1) gy)<|gI (f1 jd)<|gn (gC j5 (gk 2)<|gk 5) gy)
 (mH<|BA jb (gk 4)<|gn (gk 5) gy)
 kg)
abbrev n8:Ic:=
 qP (eC<|.int 1) (gC mh (gI (f1 Iu)<|gn (gk 1) gy)<|eC<|.int 1)
abbrev nJ:Sm:=
 gP (g_ (ko gy)<|gW 4)
 (gP (lU kr (gW 5)
 kK)
 (mH<|BA jb (gC j5 (gk 2)<|gC j5 (gk 4)<|eFn gK<|gn (gk 0)<|gn (gI (f1 jd)<|gn (gk 4) gy) gy)<|gn (gk 3) gy))
abbrev mV:Sm:=
 gP (g_ (iI [none] (jq<|gk 1) (gW 0) iL<|ko gy)<|gW 2)
 (gP (lU n8 (gW 3)
 nJ)
 (iS<|gk 2))
abbrev jE:ae->gu->R A:=jK mR mV
meta abbrev oX:aE:=top 29
meta abbrev rY:ap:=["_law_rows"]
meta abbrev o_:ap:=["_law_rows"]
abbrev rT:Sm:=
 iS (iI [none] (jq<|gk 0) (gW 0) iL<|gI (f1 mF)<|gn (gk 0) gy)
abbrev ku:ae->gu->R A:=jK rY rT
meta abbrev oQ:aE:=top 30
meta abbrev oS:ap:=["_law_first_here", "_law_second_here", "_law_one", "_law_other", "_law_found", "_law_kept"]
meta abbrev oJ:ap:=["_law_first_here", "_law_second_here"]
abbrev oN:Sm:=
 gP (g_ (eFn ku<|gn (gk 0) gy)<|gW 2)
 (gP (g_ (eFn ku<|gn (gk 1) gy)<|gW 3)
 (gP (g_ (eFn jP<|gn (gk 2)<|gn (gk 3) gy)<|gW 4)
 (gP (sS (Bw (su<|rz<|eFn jw<|gn (ko<|gn (gk 4) gy)<|gn (ko<|gn (gk 4) gy) gy)<|Bw (p7<|gC (qN true) (gk 2)<|gk 0)<|p7<|gC (qN true) (gk 3)<|gk 1)
 (iS<|eC .non)
 kg)
 (gP (g_ (gI (f1 mF)<|gn (gk 4) gy)<|gW 5)
 (gP (mH<|BA jb (gk 4)<|gn (eC<|.int 0) gy)
 (gP (sS (p7<|gC (qN true) (eFn jP<|gn (gk 2)<|gn (gk 3) gy)<|gk 5)
 (iS<|eC .non)
 kg)
 (iS<|gk 5)))))))
abbrev jQ:ae->gu->R A:=jK oS oN
meta abbrev E5:aE:=top 31
meta abbrev C8:ap:=["_law_script", "_law_k", "_law_bag_here", "_law_letters_here", "_law_first_here", "_law_second_here", "_law_lengths_here", "_law_found"]
meta abbrev HP:ap:=["_law_script"]
abbrev zx:Ic:=
 j_ (gI (f2 w6)<|gn (eC<|.int 2)<|gn (gI (f2 Ft)<|gn (gI (f1 jd)<|gn (gk 0) gy)<|gn (eC<|.int 6) gy) gy)
abbrev zW:Sm:=
 gP (g_ (eFn mw<|gn (gk 0)<|gn (gk 1) gy)<|gW 2)
 (gP (g_ (eFn jv<|gn (gk 2)<|gn (gC j5 (ko<|gn (eC<|.int 12)<|gn (eC<|.int 40) gy)<|gI (f1 zB)<|gn (gC (qN false) (eFn gK<|gn (gk 2)<|gn (eC<|.int 4) gy)<|eC<|.int 2) gy) gy)<|gW 3)
 (gP (g_ (eFn je<|gn (gk 3) gy)<|DQ 2<|uD (gW 4)<|uD (gW 5) Cs)
 (gP (sS (p7<|gC (qN true) (eFn jQ<|gn (gk 4)<|gn (gk 5) gy)<|gk 3)
 (iS<|eC<|.bl false)
 kg)
 (gP (g_ (eFn jo<|gn (gk 2) gy)<|gW 6)
 (gP (g_ (eFn jX<|gn (gk 2)<|gn (gk 6) gy)<|gW 4)
 (gP (g_ (eFn jE<|gn (gk 2)<|gn (gk 6) gy)<|gW 5)
 (gP (g_ (eFn jQ<|gn (gk 4)<|gn (gk 5) gy)<|gW 7)
 (sS (Bw (p7<|gC (BD false) (gk 7)<|eC .non)<|p7<|gC (qN true) (eFn je<|gn (gk 7) gy)<|Bd<|gn (gk 4)<|gn (gk 5) gy)
 (iS<|eC<|.bl false)
 kg))))))))
abbrev Fq:Sm:=
 gP (lU zx (gW 1)
 zW)
 (iS<|eC<|.bl true)
abbrev tD:ae->gu->R A:=jK C8 Fq
section
variable {P:ah}{w:af}{K:aq}{mg:Str->be}{base:ak}{f:aj}{fd:FuncData}
def wI:FnScope oU pG (gG pL):=rO rfl rfl rfl ∅
def wR(F:Fun K "is_whole" "is_whole" pL f fd)(Ot:mg "isinstance" = none)(Ow:mg "bool" = none)(Ov:mg "int" = none):FnOk P w K mg base nU 1 f fd pG (pq K 1 kH):=rG (m:=oO) F wI λg B d s H E j=>
 gB (gR<|nY (gD qU Ot iE<|gp (gj 0)<|gp (qT Ov yv) gw)<|pK<|Ds<|gD qU Ot iE<|gp (gj 0)<|gp (qT Ow Aq) gw)
def uR:FnScope nX n6 (gG nN):=rO rfl rfl rfl ∅
def vG(F:Fun K "is_letter" "is_letter" nN f fd)(OG:∃t,mg "GREATEST_LETTER" = some (.int 1000000000 t))(OH:oZ P w K mg base 1 "is_whole" pG kH):FnOk P w K mg base nU 2 f fd n6 (pq K 1 jA):=rG (m:=nV) F uR λj B d s H E g=>
 gB (gR<|nY (zD OH g<|gj 0)<|pK<|LC GQ GQ gx (gj 0)<|xK OG.choose_spec)
theorem tw:FnScope m5 nc (gG m8):=rO rfl rfl rfl ∅
def tB(F:Fun K "is_letters" "is_letters" m8 f fd)(Ou:mg "all" = none)(Ot:mg "isinstance" = none)(Oo:mg "list" = none)(OI:oZ P w K mg base 2 "is_letter" n6 jA):FnOk P w K mg base nU 3 f fd nc (pq K 1 jI):=rG (m:=m9) F tw λj B d s H E g=>
 gB (gR<|nY (gD qU Ot iE<|gp (gj 0)<|gp (qT Oo kc) gw)<|pK<|gD (wK rfl) Ou r8<|gp (kq (N:=["part"]) (cap:=[none]) rfl (lE [] rfl ∅ ∅ ∅ ∅ ∅ (nofun) trivial) (jO<|gj 0) (λ_ _ _ _=>gM (i:=0) (show(["part"]:ap).Nodup by decide +kernel) rfl (Or.inl rfl)<|.inr rfl) (λ_ _ _ _=>iX) λ_ _ _ _=>zD OI g<|gj 0) gw)
theorem rf:FnScope kQ kM (gG kW):=rO rfl rfl rfl ∅
def rA(F:Fun K "is_table_row" "is_table_row" kW f fd)(Ox:mg "sorted" = none)(Ol:mg "len" = none)(OJ:oZ P w K mg base 3 "is_letters" nc jI):FnOk P w K mg base nU 4 f fd kM (pq K 1 iG):=rG (m:=kE) F rf λj B g s H E d=>
 gB (gR<|nY (zD OJ d<|gj 0)<|nY (nH (Bl d.units) (gD i6 Ol iD<|gp (gj 0) gw) gx)<|pK<|nH (xM d.units) (gj 0)<|gD Ao Ox uv<|gp (gj 0) gw)
def s_:FnScope mW mL (gG mO):=rO rfl rfl rfl ∅
def sU(F:Fun K "fits_under" "fits_under" mO f fd)(Ou:mg "all" = none)(OL:mg "zip" = none)(Ol:mg "len" = none):FnOk P w K mg base nU 1 f fd mL (pq K 2 iR):=rG (m:=mZ) F s_ λj B d s H E g=>
 gB (gR<|nY (nH GQ (gD i6 Ol iD<|gp (gj 0) gw)<|gD i6 Ol iD<|gp (gj 1) gw)<|pK<|gD (wK rfl) Ou r8<|gp (kq (N:=["high", "low"]) (cap:=[none,none]) rfl (lE [] rfl ∅ ∅ ∅ ∅ ∅ (nofun) trivial) (Jd OL (gj 1)<|gj 0) (λ_ _ _ _=>rV rfl<|ju (gM (i:=0) (show(["high", "low"]:ap).Nodup by decide +kernel) rfl (Or.inl rfl)<|.inr rfl)<|ju (gM (i:=1) (show(["high", "low"]:ap).Nodup by decide +kernel) rfl (Or.inl rfl)<|.inr rfl) qf) (λ_ _ _ _=>iX) λ_ _ _ _=>nH (F8 g.units) (gj 0)<|gj 1) gw)
def xr:FnScope oW oR (gG pI):=rO rfl rfl rfl ∅
def w4(F:Fun K "is_table" "is_table" pI f fd)(Ou:mg "all" = none)(Ot:mg "isinstance" = none)(Oo:mg "list" = none)(Om:mg "range" = none)(Ol:mg "len" = none)(OM:oZ P w K mg base 4 "is_table_row" kM iG)(ON:oZ P w K mg base 1 "fits_under" mL iR):FnOk P w K mg base nU 5 f fd oR (pq K 1 jR):=rG (m:=pB) F xr λj B d s H E g=>
 gq (jD (AW.at<|pZ (m7<|lI<|gD qU Ot iE<|gp (gj 0)<|gp (qT Oo kc) gw)<|o6<|m7<|lI<|gD (wK rfl) Ou r8<|gp (kq (N:=["row"]) (cap:=[none]) rfl (lE [] rfl ∅ ∅ ∅ ∅ ∅ (nofun) trivial) (jO<|gj 0) (λ_ _ _ _=>gM (i:=0) (show(["row"]:ap).Nodup by decide +kernel) rfl (Or.inl rfl)<|.inr rfl) (λ_ _ _ _=>iX) λ_ _ _ _=>zD OM g<|gj 0) gw)
 (gB<|gR pT)
 iC)
 (gB<|gR<|gD (wK rfl) Ou r8<|gp (kq (N:=["at", "thing"]) (cap:=[none,some 0]) rfl (lE ["thing"] rfl ∅ ∅ ∅ ∅ ∅ (c7.mpr ⟨by first|exact Or.inl rfl|exact Or.inr rfl,(nofun)⟩) ⟨rfl,by decide +kernel,trivial⟩) (uc Om gx<|gD i6 Ol iD<|gp (gj 0) gw) (λ_ _ _ _=>gM (i:=0) (show(["at", "thing"]:ap).Nodup by decide +kernel) rfl (Or.inl rfl)<|.inr rfl) (λ_ _ _ _=>iX) λ_ _ _ _=>sI ON g (iu (gj 1)<|gj 0)<|iu (gj 1)<|gX t7 (gj 0) gx) gw)
def Be:FnScope sj sR (gG sq):=rO rfl rfl rfl ∅
def Bx(F:Fun K "copied" "copied" sq f fd)(Oo:mg "list" = none):FnOk P w K mg base nU 1 f fd sR (pq K 1 nQ):=rG (m:=sN) F Be λg B d s H E j=>
 gB (gR<|kq (N:=["row"]) (cap:=[none]) rfl (lE [] rfl ∅ ∅ ∅ ∅ ∅ (nofun) trivial) (jO<|gj 0) (λ_ _ _ _=>gM (i:=0) (show(["row"]:ap).Nodup by decide +kernel) rfl (Or.inl rfl)<|.inr rfl) (λ_ _ _ _=>iX) λ_ _ _ _=>kU (sL rfl) Oo kc<|gp (gj 0) gw)
def CA:FnScope rE uT (gG uY):=rO rfl rfl rfl ∅
def FA(F:Fun K "shape" "shape" uY f fd)(Ol:mg "len" = none):FnOk P w K mg base nU 1 f fd uT (pq K 1 lC):=rG (m:=rD) F CA λg B d s H E j=>
 gB (gR<|kq (N:=["row"]) (cap:=[none]) rfl (lE [] rfl ∅ ∅ ∅ ∅ ∅ (nofun) trivial) (jO<|gj 0) (λ_ _ _ _=>gM (i:=0) (show(["row"]:ap).Nodup by decide +kernel) rfl (Or.inl rfl)<|.inr rfl) (λ_ _ _ _=>iX) λ_ _ _ _=>gD i6 Ol iD<|gp (gj 0) gw)
def j4:FnScope jn jm (gG jj):=rO rfl rfl rfl ∅
def nS(F:Fun K "is_pair_of_tables" "is_pair_of_tables" jj f fd)(Ox:mg "sorted" = none)(Oo:mg "list" = none)(Om:mg "range" = none)(Ol:mg "len" = none)(OO:∃t,mg "MOST_LETTERS" = some (.int 40 t))(OA:oZ P w K mg base 1 "shape" uT lC)(OB:oZ P w K mg base 5 "is_table" oR jR):FnOk P w K mg base nU 6 f fd jm (pq K 2 iB):=rG (m:=jk) F j4 λj B g s H E d=>
 gq (jD (AW.at<|pZ (m7<|lI<|zD OB d<|gj 0)<|pZ (m7<|lI<|zD OB d<|gj 1)<|o6<|iH (yF d.units) (zD OA d<|gj 0)<|zD OA d<|gj 1)
 (gB<|gR pT)
 iC)
 (gq (gO (i:=2) j4.nd<|gD Ao Ox uv<|gp (CC (N:=["row", "number"]) (cap:=[none,none]) rfl (lE [] rfl ∅ ∅ ∅ ∅ ∅ (nofun) trivial) (jO<|gj 1) (λ_ _ _ _=>gM (i:=0) (show(["row", "number"]:ap).Nodup by decide +kernel) rfl (Or.inl rfl)<|.inr rfl) (λ_ _ _ _=>iX) (λ_ _ _ _=>jO<|gj 0) (λ_ _ _ _=>gM (i:=1) (show(["row", "number"]:ap).Nodup by decide +kernel) rfl (Or.inl rfl)<|.inr rfl) (λ_ _ _ _=>iX) λ_ _ _ _=>gj 1) gw)
 (gB<|gR<|nY (nH GQ (gD i6 Ol iD<|gp (gj 2) gw)<|xK OO.choose_spec)<|pK<|nH (xM d.units) (gj 2)<|kU (sL rfl) Oo kc<|gp (kU EZ Om C2<|gp gx<|gp (gX kC (gD i6 Ol iD<|gp (gj 2) gw) gx) gw) gw))
def j6:FnScope kN kB (gG kJ):=rO rfl rfl rfl ∅
def qZ(F:Fun K "last_smaller" "last_smaller" kJ f fd)(Ol:mg "len" = none):FnOk P w K mg base nU 1 f fd kB (pq K 2 i7):=rG (m:=kP) F j6 λg B d s H E j=>
 gq (gO (i:=2) j6.nd<|gX t7 (gD i6 Ol iD<|gp (gj 0) gw) gx)
 (gq (Dz 1000000 b5 (iH LB (iu (gj 0)<|gj 2)<|gj 1)
 (gB<|JU (i:=2) j6.nd gx GU))
 (gB<|gR<|gj 2))
def jW:FnScope pD pA (gG pe):=rO rfl rfl rfl ∅
def xR(F:Fun K "take_out" "take_out" pe f fd)(Om:mg "range" = none)(OP:oZ P w K mg base 1 "last_smaller" kB i7):FnOk P w K mg base nU 2 f fd pA (pq K 2 kD):=rG (m:=oY) F jW λj B d s H E g=>
 gq (gO (i:=2) jW.nd<|Ik PySem.F.slot_list_pop PySem.F.type_list_pop KR<|iu (gj 0)<|gj 1)
 (gq (j7 b5 rfl (tK Om (gX t7 (gj 1) gx) (uQ gx)<|uQ gx) (gM (i:=3) jW.nd)
 (gq (gO (i:=4) jW.nd<|sI OP g (iu (gj 0)<|gj 3)<|gj 2)
 (gB<|rS (uN<|gp (gj 2)<|gp (iu (iu (gj 0)<|gj 3)<|gj 4) gw)<|rV rfl<|ju (uK (iu (gj 0)<|gj 3)<|gj 4)<|ju (gM (i:=2) jW.nd) qf)))
 (gB<|gR<|gj 2))
def j3:FnScope pF pC (gG o8):=rO rfl rfl rfl ∅
def xA(F:Fun K "row_back" "row_back" o8 f fd)(OQ:mg "enumerate" = none)(Om:mg "range" = none)(Ol:mg "len" = none)(OS:oZ P w K mg base 6 "is_pair_of_tables" jm iB)(OT:oZ P w K mg base 1 "copied" sR nQ)(OU:oZ P w K mg base 2 "take_out" pA kD):FnOk P w K mg base nU 7 f fd pC (pq K 2 jP):=rG (m:=pM) F j3 λj B g s H E d=>
 gq (jD (m7<|lI<|sI OS d (gj 0)<|gj 1)
 (gB<|Lw)
 iC)
 (gq (gO (i:=2) j3.nd<|zD OT d<|gj 0)
 (gq (BG (λ_=>KG) d.units (i:=3) (N:=["at", "row", "number"]) (cap:=[none,none,none]) j3.nd rfl (lE [] rfl ∅ ∅ ∅ ∅ ∅ (nofun) trivial) (IW OQ<|gj 1) (λ_ _ _ _=>rV rfl<|ju (gM (i:=0) (show(["at", "row", "number"]:ap).Nodup by decide +kernel) rfl (Or.inl rfl)<|.inr rfl)<|ju (gM (i:=1) (show(["at", "row", "number"]:ap).Nodup by decide +kernel) rfl (Or.inl rfl)<|.inr rfl) qf) (λ_ _ _ _=>iX) (λ_ _ _ _=>jO<|gj 1) (λ_ _ _ _=>gM (i:=2) (show(["at", "row", "number"]:ap).Nodup by decide +kernel) rfl (Or.inl rfl)<|.inr rfl) (λ_ _ _ _=>iX) (λ_ _ _ _=>gj 2) λ_ _ _ _=>gj 0)
 (gq (gO (i:=4) j3.nd<|iQ gw)
 (gq (j7 b5 rfl (tK Om (gD JW Ol iD<|gp (gj 3) gw) gx<|uQ gx) (gM (i:=5) j3.nd)
 (gB<|jH<|nO bI bJ i9 (gj 4)<|gp (sI OU d (gj 2)<|J5 d.units (gj 3)<|gj 5) gw))
 (gB<|gR<|IQ<|gj 4)))))
def kR:FnScope qJ qF (gG qA):=rO rfl rfl rfl ∅
def ye(F:Fun K "_law_bag" "_law_bag" qA f fd)(Ol:mg "len" = none):FnOk P w K mg base nU 1 f fd qF (pq K 2 mw):=rG (m:=qx) F kR λj B d s H E g=>
 gq (gO (i:=2) kR.nd gx)
 (gq (jD (iH (F8 g.units) (gj 1)<|gD i6 Ol iD<|gp (gj 0) gw)
 (gB<|gO (i:=2) kR.nd<|iu (gj 0)<|gj 1)
 iC)
 (gq (gO (i:=3) kR.nd gx)
 (gq (jD (iH LB (gj 2)<|gX HM gx gx)
 (gB<|gO (i:=3) kR.nd<|gj 2)
 iC)
 (gB<|gR<|iQ<|gp (gj 3)<|gp (gX xP (gX kC (gX kC (gj 2)<|gX Dk gx<|gj 1) gx) gx) gw))))
def p6:FnScope k_ i_ (gG nI):=rO rfl rfl rfl ∅
def vf(F:Fun K "_law_digit" "_law_digit" nI f fd):FnOk P w K mg base nU 1 f fd i_ (pq K 2 gK):=rG (m:=ly) F p6 λj B d s H E g=>
 gq (jD (iH (Bl g.units) (iu (gj 0) gx) gx)
 (gq (gO (i:=2) p6.nd<|gX xP (iu (gj 0) gx)<|gj 1)
 (gq (rS (gX Cu (iu (gj 0) gx)<|gj 1)<|uK (gj 0) gx)
 (gB<|gR<|gj 2)))
 iC)
 (gq (rS (gX xP (gX kC (gX Dk (iu (gj 0) gx) gx) gx) gx)<|uK (gj 0) gx)
 (gB<|gR<|gX xP (gX xP (gX Dk (gX Cu (iu (gj 0) gx) gx) gx) gx)<|gj 1))
def iy:FnScope lV lO (gG lR):=rO rfl rfl rfl ∅
def sC(F:Fun K "_law_letters" "_law_letters" lR f fd)(Om:mg "range" = none)(Oq:oZ P w K mg base 1 "_law_digit" i_ gK):FnOk P w K mg base nU 2 f fd lO (pq K 2 jv):=rG (m:=lJ) F iy λj B g s H E d=>
 gq (gO (i:=2) iy.nd<|sI Oq d (gj 0)<|gX kC (gj 1) gx)
 (gq (gO (i:=3) iy.nd<|sI Oq d (gj 0) gx)
 (gq (gO (i:=4) iy.nd<|iu (iQ<|gp gx<|gp gx<|gp (gX HM gx gx)<|gp gx gw)<|gj 3)
 (gq (gO (i:=5) iy.nd<|iQ gw)
 (gq (j7 b5 rfl (ja Om<|gj 2) (gM (i:=6) iy.nd)
 (gq (gO (i:=7) iy.nd<|gX kC gx<|sI Oq d (gj 0)<|gj 4)
 (gq (jD (AW.at<|Cv (iH (xM d.units) (gj 3) gx)<|zd<|iH (Mm d.units) (gj 7)<|gj 5)
 (gB<|gO (i:=7) iy.nd<|gX kC gx<|gj 6)
 iC)
 (gB<|jH<|nO bI bJ i9 (gj 5)<|gp (gj 7) gw))))
 (gB<|gR<|gj 5)))))
def kG:FnScope qu qy (gG qI):=rO rfl rfl rfl ∅
def yC(F:Fun K "_law_put" "_law_put" qI f fd)(Oo:mg "list" = none)(Om:mg "range" = none)(Ol:mg "len" = none):FnOk P w K mg base nU 1 f fd qy (pq K 2 mj):=rG (m:=qL) F kG λj B d s H E g=>
 gq (uO (i:=2) (N:=["_law_row"]) (cap:=[none]) kG.nd rfl (lE [] rfl ∅ ∅ ∅ ∅ ∅ (nofun) trivial) (jO<|gj 0) (λ_ _ _ _=>gM (i:=0) (show(["_law_row"]:ap).Nodup by decide +kernel) rfl (Or.inl rfl)<|.inr rfl) (λ_ _ _ _=>iX) λ_ _ _ _=>kU (sL rfl) Oo kc<|gp (gj 0) gw)
 (gq (j7 b5 rfl (jO<|gj 2) (gM (i:=3) kG.nd)
 (gq (uO (i:=4) (N:=["_law_k", "_law_letter", "_law_row"]) (cap:=[none,some 1,some 3]) kG.nd rfl (lE ["_law_letter", "_law_row"] rfl ∅ ∅ ∅ ∅ ∅ (c7.mpr ⟨by first|exact Or.inl rfl|exact Or.inr rfl,(c7.mpr ⟨by first|exact Or.inl rfl|exact Or.inr rfl,(nofun)⟩)⟩) ⟨rfl,by decide +kernel,⟨rfl,by decide +kernel,trivial⟩⟩) (ja Om<|gD i6 Ol iD<|gp (gj 3) gw) (λ_ _ _ _=>gM (i:=0) (show(["_law_k", "_law_letter", "_law_row"]:ap).Nodup by decide +kernel) rfl (Or.inl rfl)<|.inr rfl) (λ_ _ _ _=>AK<|iH (Bl g.units) (iu (gj 2)<|gj 0)<|gj 1) λ_ _ _ _=>gj 0)
 (gq (jD (iH (xM g.units) (gj 4)<|iQ gw)
 (gq (jH<|nO bI bJ i9 (gj 3)<|gp (gj 1) gw)
 (gB<|gR<|gj 2))
 iC)
 (gB<|rS (uN<|gp (gj 1)<|gp (iu (gj 3)<|iu (gj 4) gx) gw)<|rV rfl<|ju (uK (gj 3)<|iu (gj 4) gx)<|ju (gM (i:=1) kG.nd) qf))))
 (gB<|gR<|gX kC (gj 2)<|iQ<|gp (iQ<|gp (gj 1) gw) gw))
def iO:FnScope mP mT (gG mY):=rO rfl rfl rfl ∅
def sZ(F:Fun K "_law_tables" "_law_tables" mY f fd)(Om:mg "range" = none)(Ol:mg "len" = none)(OV:oZ P w K mg base 1 "_law_put" qy mj):FnOk P w K mg base nU 2 f fd mT (pq K 1 je):=rG (m:=mK) F iO λj B g s H E d=>
 gq (gO (i:=1) iO.nd<|iQ gw)
 (gq (gO (i:=2) iO.nd<|iQ gw)
 (gq (j7 b5 rfl (ja Om<|gD i6 Ol iD<|gp (gj 0) gw) (gM (i:=3) iO.nd)
 (gq (gO (i:=4) iO.nd<|sI OV d (gj 1)<|iu (gj 0)<|gj 3)
 (gq (gO (i:=5) iO.nd<|iu (kq (N:=["_law_j", "_law_first_here", "_law_more"]) (cap:=[none,some 1,some 4]) rfl (lE ["_law_first_here", "_law_more"] rfl ∅ ∅ ∅ ∅ ∅ (c7.mpr ⟨by first|exact Or.inl rfl|exact Or.inr rfl,(c7.mpr ⟨by first|exact Or.inl rfl|exact Or.inr rfl,(nofun)⟩)⟩) ⟨rfl,by decide +kernel,⟨rfl,by decide +kernel,trivial⟩⟩) (ja Om<|gD i6 Ol iD<|gp (gj 4) gw) (λ_ _ _ _=>gM (i:=0) (show(["_law_j", "_law_first_here", "_law_more"]:ap).Nodup by decide +kernel) rfl (Or.inl rfl)<|.inr rfl) (λ_ _ _ _=>AK<|AW.at<|pZ (iH (xM d.units) (gj 0)<|gD i6 Ol iD<|gp (gj 1) gw)<|o6<|iH (F8 d.units) (gD i6 Ol iD<|gp (iu (gj 1)<|gj 0) gw)<|gD i6 Ol iD<|gp (iu (gj 2)<|gj 0) gw) λ_ _ _ _=>gj 0) gx)
 (gq (jD (iH (xM d.units) (gj 5)<|gD i6 Ol iD<|gp (gj 2) gw)
 (gB<|jH<|nO bI bJ i9 (gj 2)<|gp (iQ gw) gw)
 iC)
 (gq (jH<|nO bI bJ i9 (iu (gj 2)<|gj 5)<|gp (gX kC (gj 3) gx) gw)
 (gB<|gO (i:=1) iO.nd<|gj 4))))))
 (gB<|gR<|uN<|gp (gj 1)<|gp (gj 2) gw)))
def nE:FnScope l_ lY (gG lS):=rO rfl rfl rfl ∅
def sf(F:Fun K "_law_is_rows" "_law_is_rows" lS f fd)(Ot:mg "isinstance" = none)(Oo:mg "list" = none)(Ou:mg "all" = none)(Ow:mg "bool" = none)(Ov:mg "int" = none):FnOk P w K mg base nU 1 f fd lY (pq K 2 jw):=rG (m:=lN) F nE λj B d s H E g=>
 gq (jD (AW.at<|pZ (m7<|lI<|gD qU Ot iE<|gp (gj 0)<|gp (qT Oo kc) gw)<|o6<|iH (yF g.units) (gj 0)<|gj 1)
 (gB<|gR pT)
 iC)
 (gq (j7 b5 rfl (jO<|gj 0) (gM (i:=2) nE.nd)
 (gq (jD (m7<|lI<|gD qU Ot iE<|gp (gj 2)<|gp (qT Oo kc) gw)
 (gB<|gR pT)
 iC)
 (gB (jD (m7<|lI<|gD (wK rfl) Ou r8<|gp (kq (N:=["_law_one"]) (cap:=[none]) rfl (lE [] rfl ∅ ∅ ∅ ∅ ∅ (nofun) trivial) (jO<|gj 2) (λ_ _ _ _=>gM (i:=0) (show(["_law_one"]:ap).Nodup by decide +kernel) rfl (Or.inl rfl)<|.inr rfl) (λ_ _ _ _=>iX) λ_ _ _ _=>nY (gD qU Ot iE<|gp (gj 0)<|gp (qT Ov yv) gw)<|pK<|Ds<|gD qU Ot iE<|gp (gj 0)<|gp (qT Ow Aq) gw) gw)
 (gB<|gR pT)
 iC))))
 (gB<|gR pT))
def i8:FnScope lG lZ (gG lK):=rO rfl rfl rfl ∅
def sE(F:Fun K "_law_lengths" "_law_lengths" lK f fd)(Om:mg "range" = none)(Oq:oZ P w K mg base 1 "_law_digit" i_ gK):FnOk P w K mg base nU 2 f fd lZ (pq K 1 jo):=rG (m:=lX) F i8 λj B g s H E d=>
 gq (gO (i:=1) i8.nd<|iQ gw)
 (gq (gO (i:=2) i8.nd<|gX kC gx<|sI Oq d (gj 0) gx)
 (gq (j7 b5 rfl (ja Om<|gX kC gx<|sI Oq d (gj 0) gx) (gM (i:=3) i8.nd)
 (gq (jH<|nO bI bJ i9 (gj 1)<|gp (gX kC gx<|sI Oq d (gj 0)<|gj 2) gw)
 (gB<|gO (i:=2) i8.nd<|iu (gj 1)<|uQ gx)))
 (gB<|gR<|gj 1)))
def iK:FnScope nW n5 (gG nK):=rO rfl rfl rfl ∅
def vd(F:Fun K "_law_first" "_law_first" nK f fd)(Om:mg "range" = none)(Ol:mg "len" = none)(Oz:mg "max" = none)(Oq:oZ P w K mg base 1 "_law_digit" i_ gK):FnOk P w K mg base nU 2 f fd n5 (pq K 2 jX):=rG (m:=n_) F iK λj B g s H E d=>
 gq (gO (i:=2) iK.nd<|iQ gw)
 (gq (j7 b5 rfl (ja Om<|gD i6 Ol iD<|gp (gj 1) gw) (gM (i:=3) iK.nd)
 (gq (gO (i:=4) iK.nd<|iQ gw)
 (gq (j7 b5 rfl (ja Om<|iu (gj 1)<|gj 3) (gM (i:=5) iK.nd)
 (gq (gO (i:=6) iK.nd gx)
 (gq (jD (iH (Bl d.units) (gj 3) gx)
 (gB<|gO (i:=6) iK.nd<|gX kC (iu (iu (gj 2)<|gX t7 (gj 3) gx)<|gj 5) gx)
 iC)
 (gq (jD (iH (Bl d.units) (gj 5) gx)
 (gB<|gO (i:=6) iK.nd<|gD (Ei rfl) Oz Fp<|gp (gj 6)<|gp (iu (gj 4)<|gX t7 (gj 5) gx) gw)
 iC)
 (gB<|jH<|nO bI bJ i9 (gj 4)<|gp (gX kC (gj 6)<|iu (iQ<|gp gx<|gp gx<|gp gx<|gp gx gw)<|sI Oq d (gj 0) gx) gw)))))
 (gB<|jH<|nO bI bJ i9 (gj 2)<|gp (gj 4) gw))))
 (gB<|gR<|gj 2))
def iT:FnScope mR mU (gG mS):=rO rfl rfl rfl ∅
def sV(F:Fun K "_law_second" "_law_second" mS f fd)(Om:mg "range" = none)(OW:mg "sum" = none)(Ol:mg "len" = none)(Oq:oZ P w K mg base 1 "_law_digit" i_ gK):FnOk P w K mg base nU 2 f fd mU (pq K 2 jE):=rG (m:=mV) F iT λj B g s H E d=>
 gq (uO (i:=2) (N:=["_law_length_due"]) (cap:=[none]) iT.nd rfl (lE [] rfl ∅ ∅ ∅ ∅ ∅ (nofun) trivial) (jO<|gj 1) (λ_ _ _ _=>gM (i:=0) (show(["_law_length_due"]:ap).Nodup by decide +kernel) rfl (Or.inl rfl)<|.inr rfl) (λ_ _ _ _=>iX) λ_ _ _ _=>iQ gw)
 (gq (j7 b5 rfl (uc Om gx<|gX kC (gD (Lb rfl) OW IE<|gp (gj 1) gw) gx) (gM (i:=3) iT.nd)
 (gq (gO (i:=4) iT.nd<|iQ gw)
 (gq (j7 b5 rfl (ja Om<|gD i6 Ol iD<|gp (gj 1) gw) (gM (i:=5) iT.nd)
 (gq (gO (i:=6) iT.nd<|nH (F8 d.units) (gD i6 Ol iD<|gp (iu (gj 2)<|gj 5) gw)<|iu (gj 1)<|gj 5)
 (gB (jD (AW.at<|Cv (lI<|gj 6)<|zd<|AW.at<|pZ (iH (xM d.units) (gj 5) gx)<|o6<|iH (Bl d.units) (gD i6 Ol iD<|gp (iu (gj 2)<|gX t7 (gj 5) gx) gw)<|gD i6 Ol iD<|gp (iu (gj 2)<|gj 5) gw)
 (gB<|jH<|nO bI bJ i9 (gj 4)<|gp (gj 5) gw)
 iC))))
 (gB<|jH<|nO bI bJ i9 (iu (gj 2)<|iu (gj 4)<|sI Oq d (gj 0)<|gD i6 Ol iD<|gp (gj 4) gw)<|gp (gj 3) gw))))
 (gB<|gR<|gj 2))
def xV:FnScope rY o_ (gG oX):=rO rfl rfl rfl ∅
def wu(F:Fun K "_law_copy" "_law_copy" oX f fd)(Oo:mg "list" = none):FnOk P w K mg base nU 1 f fd o_ (pq K 1 ku):=rG (m:=rT) F xV λg B d s H E j=>
 gB (gR<|kq (N:=["_law_row"]) (cap:=[none]) rfl (lE [] rfl ∅ ∅ ∅ ∅ ∅ (nofun) trivial) (jO<|gj 0) (λ_ _ _ _=>gM (i:=0) (show(["_law_row"]:ap).Nodup by decide +kernel) rfl (Or.inl rfl)<|.inr rfl) (λ_ _ _ _=>iX) λ_ _ _ _=>kU (sL rfl) Oo kc<|gp (gj 0) gw)
def jV:FnScope oS oJ (gG oQ):=rO rfl rfl rfl ∅
def vQ(F:Fun K "_law_back" "_law_back" oQ f fd)(Oo:mg "list" = none)(OC:oZ P w K mg base 1 "_law_copy" o_ ku)(OD:oZ P w K mg base 7 "row_back" pC jP)(OX:oZ P w K mg base 1 "_law_is_rows" lY jw):FnOk P w K mg base nU 8 f fd oJ (pq K 2 jQ):=rG (m:=oN) F jV λj B g s H E d=>
 gq (gO (i:=2) jV.nd<|zD OC d<|gj 0)
 (gq (gO (i:=3) jV.nd<|zD OC d<|gj 1)
 (gq (gO (i:=4) jV.nd<|sI OD d (gj 2)<|gj 3)
 (gq (jD (AW.at<|pZ (m7<|lI<|sI OX d (iQ<|gp (gj 4) gw)<|iQ<|gp (gj 4) gw)<|pZ (iH (yF d.units) (gj 2)<|gj 0)<|o6<|iH (yF d.units) (gj 3)<|gj 1)
 (gB<|gR<|yz)
 iC)
 (gq (gO (i:=5) jV.nd<|kU (sL rfl) Oo kc<|gp (gj 4) gw)
 (gq (jH<|nO bI bJ i9 (gj 4)<|gp gx gw)
 (gq (jD (iH (yF d.units) (sI OD d (gj 2)<|gj 3)<|gj 5)
 (gB<|gR<|yz)
 iC)
 (gB<|gR<|gj 5)))))))
def l6:FnScope C8 HP (gG E5):=rO rfl rfl rfl ∅
set_option smartUnfolding false in
theorem I0(F:Fun K "law" "law" E5 f fd)(Om:mg "range" = none)(Oz:mg "max" = none)(OY:mg "min" = none)(Ol:mg "len" = none)(Ov:mg "int" = none)(OZ:oZ P w K mg base 1 "_law_bag" qF mw)(O0:oZ P w K mg base 2 "_law_letters" lO jv)(Oq:oZ P w K mg base 1 "_law_digit" i_ gK)(OE:oZ P w K mg base 2 "_law_tables" mT je)(OF:oZ P w K mg base 8 "_law_back" oJ jQ)(O1:oZ P w K mg base 2 "_law_lengths" lZ jo)(O2:oZ P w K mg base 2 "_law_first" n5 jX)(O3:oZ P w K mg base 2 "_law_second" mU jE):FnOk P w K mg base nU 9 f fd HP (pq K 1 tD):=rG (m:=Fq) F l6 λj B g s H E d=>
 gq (j7 b5 rfl (ja Om<|gD (Ei rfl) Oz Fp<|gp gx<|gp (gD (Kh rfl) OY JK<|gp (gD i6 Ol iD<|gp (gj 0) gw)<|gp gx gw) gw) (gM (i:=1) l6.nd)
 (gq (gO (i:=2) l6.nd<|sI OZ d (gj 0)<|gj 1)
 (gq (gO (i:=3) l6.nd<|sI O0 d (gj 2)<|iu (iQ<|gp gx<|gp gx gw)<|kU JZ Ov yv<|gp (nH (xM d.units) (sI Oq d (gj 2) gx) gx) gw)
 (gq (rS (zD OE d<|gj 3)<|rV rfl<|ju (gM (i:=4) l6.nd)<|ju (gM (i:=5) l6.nd) qf)
 (gq (jD (iH (yF d.units) (sI OF d (gj 4)<|gj 5)<|gj 3)
 (gB<|gR pT)
 iC)
 (gq (gO (i:=6) l6.nd<|zD O1 d<|gj 2)
 (gq (gO (i:=4) l6.nd<|sI O2 d (gj 2)<|gj 6)
 (gq (gO (i:=5) l6.nd<|sI O3 d (gj 2)<|gj 6)
 (gq (gO (i:=7) l6.nd<|sI OF d (gj 4)<|gj 5)
 (gB (jD (AW.at<|pZ (iH MX (gj 7)<|yz)<|o6<|iH (yF d.units) (zD OE d<|gj 7)<|uN<|gp (gj 4)<|gp (gj 5) gw)
 (gB<|gR pT)
 iC)))))))))))
 (gB<|gR pT)
end
end K58
namespace Tb
abbrev fg (r:ag)(x:Int):Nat:=r.findIdx λy=>decide<|x<y
def D3(r:ag)(x:Int):fg r x<=r.length:=eK
def tR{r:ag}{x:Int}(h:fg r x≠r.length):fg r x<r.length:=Nat.lt_of_le_of_ne (D3 r x) h
abbrev put:List (ag)->Int->List (ag)
 | [],x=>[[x]]
 | r::rs,x=>if fg r x=r.length then(r++[x])::rs else r.set (fg r x) x::put rs (r.getD (fg r x) 0)
abbrev row:List (ag)->Int->Nat
 | [],_=>0
 | r::rs,x=>if fg r x=r.length then 0 else row rs (r.getD (fg r x) 0)+1
def lu{r:ag}{x:Int}(h:fg r x=r.length):put (r::rs) x=(r++[x])::rs:=aX h
def nM{r:ag}{x:Int}(h:fg r x≠r.length):put (r::rs) x=r.set (fg r x) x::put rs (r.getD (fg r x) 0):=aZ h
def qi{r:ag}{x:Int}(h:fg r x=r.length):row (r::rs) x=0:=aX h
def sJ{r:ag}{x:Int}(h:fg r x≠r.length):row (r::rs) x=row rs (r.getD (fg r x) 0)+1:=aZ h
theorem uX:∀(T:List<|ag) (x:Int),row T x<=T.length
 | [],_=>aN _
 | r::rs,x=>by
  by_cases h:fg r x=r.length
  ·rw[qi h];exact cN _
  ·rw[sJ h,bB];exact fV<|uX rs _
abbrev bump:am->Nat->am
 | [],_=>[1]
 | n::ns,0=>(n+1)::ns
 | n::ns,i+1=>n::bump ns i
theorem jc:∀(T:List<|ag) (x:Int),(put T x).map List.length=bump (T.map List.length) (row T x)
 | [],_=>rfl
 | r::rs,x=>by
  by_cases h:fg r x=r.length
  ·rw[lu h,qi h,bH,bH,aM];rfl
  ·rw[nM h,sJ h,bH,bH,bA,jc rs];rfl
theorem vZ:∀(ns:am) (i:Nat),i<=ns.length->(bump ns i).length=if i=ns.length then ns.length+1 else ns.length
 | [],i,h=>by
  have:i=0:=by simpa using h
  subst this;rfl
 | n::ns,0,_=>by rw[aZ<|by simp];rfl
 | n::ns,i+1,h=>by
  have h':i<=ns.length:=Nat.le_of_succ_le_succ h;show(bump ns i).length+1=_;rw[vZ ns i h'];by_cases e:i=ns.length
  ·rw[aX e,aX<|by rw[bB,e]];rfl
  ·rw[aZ e,aZ<|by rw[bB];lia];rfl
theorem zz:∀(ns:am) (i j:Nat),i<=ns.length->(bump ns i).getD j 0=ns.getD j 0+if j=i then 1 else 0
 | [],i,j,h=>by
  have:i=0:=by simpa using h
  subst this
  cases j with
  | zero=>rfl
  | succ j=>simp[bump]
 | n::ns,0,j,_=>by cases j<;>simp[bump]
 | n::ns,i+1,j,h=>by
  cases j with
  | zero=>simp[bump]
  | succ j=>
   have:=zz ns i j<|Nat.le_of_succ_le_succ h;simpa[bump]using this
theorem vS:∀(ns:am) (i:Nat),(bump ns i).sum=ns.sum+1
 | [],_=>rfl
 | n::ns,0=>by simp[bump];lia
 | n::ns,i+1=>by simp[bump,vS ns i];lia
def uF(T:List<|ag)(x:Int):(put T x).length=if row T x=T.length then T.length+1 else T.length:=by
 have:=b_ List.length<|jc T x;rw[aH,vZ _ _<|by rw[aH];exact uX T x,aH]at this;exact this
def jY(T:List<|ag)(j:Nat):(T.map List.length).getD j 0=(T.getD j []).length:=by
 rw[aG,aG,aS]
 cases T[j]?<;>rfl
def JA(T:List<|ag)(x:Int)(j:Nat):((put T x).getD j []).length=(T.getD j []).length+if j=row T x then 1 else 0:=by
 rw[<- jY,jc,zz _ _ _<|by rw[aH];exact uX T x,jY]
def GJ(T:List<|ag)(x:Int):((put T x).map List.length).sum=(T.map List.length).sum+1:=by
 rw[jc,vS]
abbrev add:List (ag)->Nat->Int->List (ag)
 | [],_,k=>[[k]]
 | q::qs,0,k=>(q++[k])::qs
 | q::qs,i+1,k=>q::add qs i k
theorem ou:∀(Q:List<|ag) (i:Nat) (k:Int),(add Q i k).map List.length=bump (Q.map List.length) i
 | [],_,_=>rfl
 | q::qs,0,k=>by simp[add,bump]
 | q::qs,i+1,k=>by simp[add,bump,ou qs i k]
theorem yN:∀(Q:List<|ag) (k:Int),add Q Q.length k=Q++[[k]]
 | [],_=>rfl
 | q::qs,k=>by show q::add qs qs.length k=_;rw[yN qs k];rfl
theorem DT:∀(Q:List<|ag) (i:Nat) (k:Int),i<Q.length->add Q i k=Q.set i (Q.getD i []++[k])
 | [],_,_,h=>absurd h (cj _)
 | q::qs,0,k,_=>rfl
 | q::qs,i+1,k,h=>by show q::add qs i k=_;rw[DT qs i k<|Nat.lt_of_succ_lt_succ h];rfl
abbrev tabs (xs:ag):Nat->List (ag)×List (ag)
 | 0=>([],[])
 | i+1=>(put (tabs xs i).1<|xs.getD i 0,add (tabs xs i).2 (row (tabs xs i).1<|xs.getD i 0)<|(i:Int)+1)
theorem jy(xs:ag):∀i,(tabs xs i).2.map List.length=(tabs xs i).1.map List.length
 | 0=>rfl
 | i+1=>by
  show(add _ _ _).map List.length=(put _ _).map List.length;rw[ou,jc,jy xs i]
def CN(xs:ag)(i:Nat):(tabs xs i).2.length=(tabs xs i).1.length:=by
 have:=b_ List.length<|jy xs i;simpa using this
theorem sF(xs:ag):∀i,((tabs xs i).1.map List.length).sum=i
 | 0=>rfl
 | i+1=>by
  show((put _ _).map List.length).sum=_;rw[GJ,sF xs i]
theorem oM:∀{ns:am},(∀n∈ns,0<n)->ns.length<=ns.sum
 | [],_=>aN _
 | n::ns,h=>by
  have h1:=h n<|aY ..;have h2:=oM λm hm=>h m<|aK _ hm;rw[bB,cO];lia
theorem ow:∀(ns:am) (j:Nat),ns.getD j 0<=ns.sum
 | [],j=>by simp
 | n::ns,0=>by simp
 | n::ns,j+1=>by have:=ow ns j;rw[cO];dsimp[List.getD_cons_succ];lia
theorem vM:∀{ns:am}{i:Nat},(∀n∈ns,0<n)->∀n∈bump ns i,0<n
 | [],_,_,n,h=>by simp[bump]at h;lia
 | m::ns,0,hp,n,h=>by
  rcases br.mp h with z|z
  ·lia
  ·exact hp n<|aK _ z
 | m::ns,i+1,hp,n,h=>by
  rcases br.mp h with z|z
  ·rw[z];exact hp m (aY ..)
  ·exact vM (λk d=>hp k<|aK _ d) n z
theorem wU(xs:ag):∀i,∀n∈(tabs xs i).1.map List.length,0<n
 | 0=>λn h=>by cases h
 | i+1=>by
  show ∀n∈(put _ _).map List.length,0<n;rw[jc];exact vM<|wU xs i
def xX(xs:ag)(i:Nat):(tabs xs i).1.length<=i/\∀j,((tabs xs i).1.getD j []).length<=i:=by
 refine⟨?_,λj=>?_⟩
 ·have:=oM<|wU xs i;rw[sF,aH]at this;exact this
 ·have:=ow ((tabs xs i).1.map List.length) j;rw[jY,sF]at this;exact this
abbrev gs (r:ag)(x:Int):am:=(List.range r.length).filter λk=>decide<|x<r.getD k 0
theorem Ah:∀(r:ag) (x:Int),(fg r x=r.length->gs r x=[])/\(fg r x≠r.length->∃t,gs r x=fg r x::t)
 | [],x=>⟨λ_=>rfl,λh=>absurd rfl h⟩
 | y::r,x=>by
  have d:=Ah r x;have e:gs (y::r) x=if x<y then 0::(gs r x).map Nat.succ else(gs r x).map Nat.succ:=by
   unfold gs;rw[bB,eG,eV,d8];by_cases h:x<y<;>simp[h]<;>rfl
  have e2:fg (y::r) x=if x<y then 0 else fg r x+1:=by
   unfold fg;rw[List.findIdx_cons];by_cases h:x<y<;>simp[h]
  rw[e,e2];by_cases h:x<y
  ·rw[aX h,aX h];exact⟨λz=>by simp at z,λ_=>⟨_,rfl⟩⟩
  ·rw[aZ h,aZ h];refine⟨λz=>?_,λz=>?_⟩
   ·rw[d.1<|by simpa using z];rfl
   ·obtain⟨t,f⟩:=d.2 (by simpa using z);exact⟨t.map Nat.succ,by rw[f];rfl⟩
end Tb
namespace Am
open PySem L2
abbrev Rows (S:gu):am->List (ag)->Prop
 | [],[]=>True
 | r::rs,x::T=>gm S r=some (x.map .int)/\Rows S rs T
 | _,_=>False
theorem Rows.len:∀{rs:am}{T:List<|ag},Rows S rs T->rs.length=T.length
 | [],[],_=>rfl
 | _::_,_::_,h=>b_ (·+1) (Rows.len h.2)
 | [],_::_,h=>h.elim
 | _::_,[],h=>h.elim
theorem Rows.get:∀{rs:am}{T:List<|ag}{i:Nat}{r:Nat},Rows S rs T->rs[i]?=some r->i<T.length/\gm S r=some ((T.getD i []).map .int)
 | [],[],_,_,_,e=>by simp at e
 | r::rs,x::T,0,_,h,e=>by simp at e;subst e;exact⟨Nat.zero_lt_succ _,h.1⟩
 | r::rs,x::T,i+1,q,h,e=>by
  obtain⟨h1,h2⟩:=Rows.get (i:=i) (r:=q) h.2 (by simpa using e);exact⟨eW h1,by simpa using h2⟩
 | [],_::_,_,_,h,_=>h.elim
 | _::_,[],_,_,h,_=>h.elim
theorem Rows.mono:∀{rs:am}{T:List<|ag},Rows S rs T->(∀r∈rs,∀xs,gm S r=some xs->gm S' r=some xs)->Rows S' rs T
 | [],[],_,_=>trivial
 | r::rs,x::T,h,k=>⟨k r (aY ..) _ h.1,Rows.mono h.2 λq d=>k q<|aK _ d⟩
 | [],_::_,h,_=>h.elim
 | _::_,[],h,_=>h.elim
theorem Rows.mk:∀{rs:am}{T:List<|ag},rs.length=T.length->(∀i,i<T.length->gm S (rs.getD i 0)=some ((T.getD i []).map .int))->Rows S rs T
 | [],[],_,_=>trivial
 | r::rs,x::T,hl,h=>⟨h 0<|Nat.zero_lt_succ _,Rows.mk (by simpa using hl) λi d=>by have:=h (i+1)<|eW d;simpa using this⟩
 | [],_::_,h,_=>by simp at h
 | _::_,[],h,_=>by simp at h
theorem Rows.set{S:gu}{ys:ag}:∀{rs:am}{T:List<|ag}{i:Nat}{r:Nat},Rows S rs T->rs.Nodup->rs[i]?=some r->Rows (S.set r<|.lst<|ys.map .int) rs (T.set i ys)
 | [],[],_,_,_,_,e=>by simp at e
 | r::rs,x::T,0,q,h,nd,e=>by
  simp at e;subst e;refine⟨jC<|jN h.1,Rows.mono h.2 λq f xs e=>?_⟩;rw[iA<|show r≠q from λz=>(bD.mp nd).1<|by rw[z];exact f];exact e
 | r::rs,x::T,i+1,q,h,nd,e=>by
  have d:rs[i]?=some q:=by simpa using e
  refine⟨?_,Rows.set h.2 (bD.mp nd).2 d⟩;rw[iA<|show q≠r from λz=>(bD.mp nd).1<|by rw[<- z];exact bf d];exact h.1
 | [],_::_,_,_,h,_,_=>h.elim
 | _::_,[],_,_,h,_,_=>h.elim
theorem Rows.app:∀{rs rs':am}{T T':List<|ag},Rows S rs T->Rows S rs' T'->Rows S (rs++rs') (T++T')
 | [],_,[],_,_,h=>h
 | r::rs,_,x::T,_,h,h'=>⟨h.1,Rows.app h.2 h'⟩
 | [],_,_::_,_,h,_=>h.elim
 | _::_,_,[],_,h,_=>h.elim
theorem qt{n:Nat}:∀{rs rs':am}{T T':List<|ag},Rows S rs T->Rows S rs' T'->nZ (oi S<|n+2) (rs.map .ref) (rs'.map .ref)=some (decide<|T=T')
 | [],[],[],[],_,_=>rfl
 | [],_::_,[],_::_,_,_=>rfl
 | _::_,[],_::_,[],_,_=>rfl
 | r::rs,q::qs,x::T,y::T',h,h'=>by
  show(oi S (n+2) (.ref r)<|.ref q).bind _=_;have e:oi S (n+2) (.ref r) (.ref q)=some (decide<|x=y):=by
   show(gm S r).bind (λxs=>(gm S q).bind λys=>nZ (oi S<|n+1) xs ys)=_;rw[h.1,bx,h'.1,bx];exact qz x y
  rw[e,bx]
  skip
  rw[qt h.2 h'.2]
  skip
  by_cases h1:x=y<;>by_cases h2:T=T'<;>simp[h1,h2]
 | [],_,_::_,_,h,_=>h.elim
 | _::_,_,[],_,h,_=>h.elim
 | _,[],_,_::_,_,h=>h.elim
 | _,_::_,_,[],_,h=>h.elim
structure Tab (S:gu)(n:Nat)(rs:am)(T:List (ag)):Prop where
 top:gm S n=some (rs.map .ref)
 rows:Rows S rs T
 nd:(n::rs).Nodup
def Tab.len{n:Nat}{rs:am}{T:List<|ag}(h:Tab S n rs T):rs.length=T.length:=h.rows.len
def Tab.kp{n:Nat}{c:Nat->Prop}(h:Tab S n rs T)(k:Kp c S S')(hc:∀r∈n::rs,¬c r):Tab S' n rs T:=
 ⟨k.lst _ _ (hc n<|aY ..) h.top,h.rows.mono λr d xs e=>k.lst r xs (hc r<|aK _ d) e,h.nd⟩
def Tab.nB{n:Nat}(h:Tab S n rs T)(k:kX S S'):Tab S' n rs T:=h.kp k λ_ _ z=>z
def Rows.lt{S:gu}{rs:am}(h:Rows S rs T):∀r∈rs,r<S.length:=λr d=>by
 obtain⟨i,f,e⟩:=dJ.mp d;exact jN (h.get<|by rw[aF f,e]).2
def Tab.lt{S:gu}{n:Nat}(h:Tab S n rs T):∀r∈n::rs,r<S.length:=λr d=>by
 rcases br.mp d with z|z
 ·rw[z];exact jN h.top
 ·exact h.rows.lt r z
def Tab.set{S:gu}{n:Nat}{T:List<|ag}{i r:Nat}{ys:ag}(h:Tab S n rs T)(hi:rs[i]?=some r):Tab (S.set r<|.lst<|ys.map .int) n rs (T.set i ys):=
 ⟨by rw[iA<|show r≠n from λz=>(bD.mp h.nd).1<|by rw[<- z];exact bf hi];exact h.top,h.rows.set (bD.mp h.nd).2 hi,h.nd⟩
def Tab.push{S:gu}{n:Nat}{ys:ag}(h:Tab S n rs T):Tab ((S++[O.lst<|ys.map .int]).set n<|.lst<|(rs++[S.length]).map .ref) n (rs++[S.length]) (T++[ys]):=by
 have hn:n<S.length:=h.lt n<|aY ..;have f:∀r∈rs,n≠r:=λr d z=>(bD.mp h.nd).1<|z ▸ d;refine⟨jC<|by rw[aM];simp;lia,Rows.app (h.rows.mono λr d xs e=>?_) ⟨?_,trivial⟩,?_⟩
 ·rw[iA<|f r d];exact gZ e
 ·rw[iA ()];exact gJ
 ·rw[bD,cy];refine⟨λz=>?_,(bD.mp h.nd).2,by simp,λa j b hb z=>?_⟩
  ·rcases bC.mp z with z|z
   ·exact f n z rfl
   ·have:n=S.length:=by simpa using z
    lia
  ·have g:b=S.length:=by simpa using hb
   have:=h.rows.lt a j
   lia
def Tab.eq{n:Nat}(h:Tab S n rs T)(h':Tab S m qs U):oi S 12 (.ref n) (.ref m)=some (decide<|T=U):=by
 show(gm S n).bind (λxs=>(gm S m).bind λys=>nZ (oi S 11) xs ys)=_;rw[h.top,bx,h'.top,bx];exact qt h.rows h'.rows
def Tab.nil{n:Nat}(h:gm S n=some []):Tab S n [] []:=⟨h,trivial,by simp⟩
theorem uL{s:Src}{g:Tg}{e:Ex}{T:ae->Prop}(P:Nat->gu->Prop)(it:Nat->A)(f:Nat->A)
  (hget:∀i S,i<s.k->P i S->s.get i S=some (it i)) (hfin:∀S,P s.k S->s.fin S=true)
  (step:∀i τ S,i<s.k->T τ->P i S->∃τ1 S1 S3,g (it i) τ S=.ok τ1 S1/\T τ1/\e τ1 S1=.ok (f i) S3/\P (i+1) S3) :
  ∀k i τ S,k+i=s.k->T τ->P i S->∃S',iU s g iL e k i τ S=.ok ((List.range' i k).map f) S'/\P s.k S'
 | 0,i,τ,S,hk,hT,hP=>by
  have:i=s.k:=()
  subst this;exact⟨S,by unfold iU;rw[aX<|hfin S hP];rfl,hP⟩
 | k+1,i,τ,S,hk,hT,hP=>by
  obtain⟨τ1,S1,S3,hg,d,m,j⟩:=step i τ S () hT hP;obtain⟨S',h1,h2⟩:=uL P it f hget hfin step k (i+1) τ1 S3 () d j;refine⟨S',?_,h2⟩;unfold iU;rw[hget i S () hP,ie,hg,R.gY];show(e τ1 S1).h_ _=_;rw[m,R.gY,h1];rfl
def tN{src:Ic}{S:gu}{n:Nat}{rs:am}{T:List<|ag}(h:Tab S n rs T)(hs:src τ S=.ok (g8 n (rs.map A.ref).length) S)(hl:T.length<=16777216) :
  ∃(qs:am) (m:Nat) (S':gu),iI (none::cap) src (gW 0) iL (gI (f1 mF)<|gn (gk 0) gy) τ S=.ok (.ref m) S'/\Tab S' m qs T/\kX S S'/\∀r∈m::qs,S.length<=r:=by
 have C:=h.len;rw[aH]at hs;obtain⟨S',h1,h2,J,G⟩:=uL (s:=g8 n rs.length) (g:=gW 0) (e:=gI (f1 mF)<|gn (gk 0) gy) (T:=λt=>∃y,t=y::jJ cap τ)
  (λi S1=>kX S S1/\S1.length=S.length+i/\∀j,j<i->gm S1 (S.length+j)=some ((T.getD j []).map .int)) (λi=>.ref<|rs.getD i 0) (λi=>.ref<|S.length+i)
  (λi S1 d h9=>by
   obtain⟨k,_,_⟩:=h9;have d:i<rs.length:=d;show(gm S1 n).bind _=_;rw[k.lst n _ (λz=>z) h.top,bx,aS,aF d,aG,aF d];rfl)
  (λS1 h9=>by
   obtain⟨k,_,_⟩:=h9;show(match gm S1 n with
    | some ys=>decide (ys.length<=rs.length)
    | none=>false)=true
   rw[k.lst n _ (λz=>z) h.top];simp)
  (λi t S1 d ⟨y,hy⟩ ⟨k,f,F⟩=>by
   have d:i<rs.length:=d;subst hy;have e1:gm S1 (rs.getD i 0)=some ((T.getD i []).map .int):=k.lst _ _ (λz=>z) (h.rows.get<|by rw[aG,aF d];rfl).2;refine⟨.ref (rs.getD i 0)::jJ cap τ,S1,S1++[.lst<|(T.getD i []).map .int],rfl,⟨_,rfl⟩,?_,k.lay,by rw[aM,f];rfl,λj B=>?_⟩
   ·dsimp[gT,bools,e1,<- f]
   ·by_cases z:j<i
    ·exact gZ (F j z)
    ·have:j=i:=()
     subst this;rw[<- f];exact gJ)
  rs.length 0 (jJ (none::cap) τ) S rfl ⟨_,rfl⟩ ⟨Kp.refl,rfl,λj B=>absurd B<|cj _⟩
 have J:S'.length=S.length+rs.length:=J;have G:∀j,j<rs.length->gm S' (S.length+j)=some ((T.getD j []).map .int):=G;refine⟨(List.range' 0 rs.length).map (S.length+·),S'.length,S'++[.lst<|((List.range' 0 rs.length).map (S.length+·)).map .ref],?_,⟨gJ,Rows.mk (by simp[C]) λi d=>?_,?_⟩,h2.lay,λr F=>?_⟩
 ·unfold iI;rw[hs,R.iV];show R.h_ (iU (g8 n rs.length) (gW 0) iL _ rs.length 0 (jJ (none::cap) τ) S) _=_;rw[h1,R.gY,iz<|by simp;lia,bV];rfl
 ·refine gZ ?_;have:((List.range' 0 rs.length).map (S.length+·)).getD i 0=S.length+i:=by
   rw[aG,aS,List.getElem?_range' ()];simp
  rw[this];exact G i ()
 ·rw[bD];refine⟨λz=>?_,?_⟩
  ·obtain⟨j,B,e⟩:=cu.mp z;have:=List.mem_range'.mp B
   lia
  ·rw[fM,eB];exact(List.nodup_range' (step:=1)).imp λh z=>h ()
 ·rcases br.mp F with z|z
  ·rw[z];lia
  ·obtain⟨j,B,e⟩:=cu.mp z
   lia
def xW{n:Nat}:(List.range n).filter (λ_=>true)=List.range n:=cJ.mpr λ_ _=>rfl
def tF{src:Ic}{S:gu}{n:Nat}{rs:am}{T:List<|ag}(h:Tab S n rs T)(hs:src τ S=.ok (g8 n (rs.map A.ref).length) S)(hl:T.length<=1000000) :
  iI (none::cap) src (gW 0) iL (gI (f1 jd)<|gn (gk 0) gy) τ S=.ok (.ref S.length) (S++[.lst<|(T.map λr=>(r.length:Int)).map .int]):=by
 have f:=h.len;rw[aH]at hs;rw[qv (s:=g8 n rs.length) hs (λi=>.ref<|rs.getD i 0) (λ_=>true) (λi=>.int ((T.getD i []).length:Int)) (λi d=>by
   have d:i<rs.length:=d;show(gm S n).bind _=_;rw[h.top,bx,aS,aF d,aG,aF d];rfl) (by
   show(match gm S n with
    | some ys=>decide (ys.length<=rs.length)
    | none=>false)=true
   rw[h.top];simp) (λ_ _=>rfl) (λi d _=>by
   have d:i<rs.length:=d;have e1:gm S (rs.getD i 0)=some ((T.getD i []).map .int):=(h.rows.get<|by rw[aG,aF d];rfl).2;dsimp[gT,bools,e1,aH])<|by show rs.length<=_;lia]
 show R.ok (A.ref S.length) (S++[O.lst<|List.map _<|List.filter (λ_=>true)<|List.range rs.length])=_;have g:(List.range rs.length).map (λi=>A.int ((T.getD i []).length:Int))=(T.map λr=>(r.length:Int)).map .int:=by
  rw[f,bV];refine List.ext_getElem (by rw[aH,aH,fO]) λi h1 h2=>?_;have d:i<T.length:=by rw[aH]at h2;exact h2
  rw[fW,fW,List.getElem_range,aG,aF d];rfl
 rw[xW,<- g]
def Tab.cat{S:gu}{qs:am}{ys:ag}(h:Tab S m qs U) :
  Tab (S++[O.lst<|ys.map .int]++[O.lst [.ref S.length]]++[O.lst<|qs.map .ref++[.ref S.length]]) (S++[O.lst<|ys.map .int]++[O.lst [.ref S.length]]).length (qs++[S.length]) (U++[ys]):=by
 refine⟨by rw[gJ,bF];rfl,Rows.app (h.rows.mono λr _ xs e=>gZ<|gZ<|gZ e) ⟨gZ<|gZ gJ,trivial⟩,?_⟩;have d:=h.rows.lt;rw[bD,cy];refine⟨λz=>?_,(bD.mp h.nd).2,by simp,λa g b hb z=>?_⟩
 ·dsimp[aM,bB,gc]at z
  rcases bC.mp z with z|z
  ·have:=d _ z;lia
  ·have:=aQ.mp z;lia
 ·have f:b=S.length:=by simpa using hb
  have:=d a g
  lia
def eq_nil{a:Nat}{xs:ae}(h:gm S a=some xs)(h':gm S b=some []):oi S 12 (.ref a) (.ref b)=some xs.isEmpty:=by
 show(gm S a).bind (λxs=>(gm S b).bind λys=>nZ (oi S 11) xs ys)=_;rw[h,bx,h',bx]
 cases xs<;>rfl
def xQ{a:Nat}{xs ys:ag}(h:gm S a=some (xs.map .int))(h':gm S b=some (ys.map .int)):oi S 12 (.ref a) (.ref b)=some (decide<|xs=ys):=by
 show(gm S a).bind (λxs=>(gm S b).bind λys=>nZ (oi S 11) xs ys)=_;rw[h,bx,h',bx];exact qz xs ys
def ya{a:A}{k:Bool}(h:oi S 12 a b=some k):qN false a b S=.ok (.bl k) S:=by unfold qN;rw[h];rfl
def pH{a:A}{k:Bool}(h:oi S 12 a b=some k):qN true a b S=.ok (.bl<|!k) S:=by unfold qN;rw[h];rfl
def wV{xs:ae}{n:Nat}{src:Ic}{t:Te}{e:Ex}{S:gu}(hs:src τ S=.ok (g8 n xs.length) S)(hx:gm S n=some xs)(p:A->Bool)(f:A->A)
  (ht:∀x∈xs,t (x::jJ cap τ) S=.ok (p x) S) (he:∀x∈xs,p x=true->e (x::jJ cap τ) S=.ok (f x) S) (hl:xs.length<=16777216) :
  iI (none::cap) src (gW 0) t e τ S=.ok (.ref S.length) (S++[.lst<|(xs.filter p).map f]):=by
 have hm:∀i,i<xs.length->xs.getD i .unb∈xs:=λi d=>by
  rw[aG,aF d];exact b8 d
 rw[qv hs (λi=>xs.getD i .unb) (λi=>p<|xs.getD i .unb) (λi=>f<|xs.getD i .unb) (λi d=>by
  have d:i<xs.length:=d;show(gm S n).bind _=_;rw[hx,bx,aG,aF d];rfl) (by
   show(match gm S n with
    | some ys=>decide (ys.length<=xs.length)
    | none=>false)=true
   rw[hx];simp) (λi d=>ht _<|hm i d) (λi d=>he _<|hm i d) hl]
 have:=qB xs p f .unb;show R.ok _ (S++[O.lst<|((List.range xs.length).filter _).map _])=_;rw[this]
theorem range_one{r:Nat}:∀{N:Nat},r<N->(List.range N).filter (λj=>decide<|j=r)=[r]
 | 0,h=>absurd h (cj _)
 | N+1,h=>by
  rw[d9,List.filter_append];by_cases e:r=N
  ·subst e;have:(List.range r).filter (λj=>decide<|j=r)=[]:=List.filter_eq_nil_iff.mpr λa d=>by have:=fF.mp d;simp;lia
   rw[this];simp
  ·rw[range_one<|show r<N by lia];have:([N]:am).filter (λj=>decide<|j=r)=[]:=List.filter_eq_nil_iff.mpr λa d=>by rw[aQ.mp d];simp;lia
   rw[this];rfl
def FT{r N:Nat}(h:r<N):((iw 0 (N:Int)).filter λk=>decide<|k=(r:Int)).map A.int=[.int r]:=by
 unfold iw;rw[d8,bV];have e:((N:Int)-0).toNat=N:=()
 rw[e];have e2:((λk:Int=>decide<|k=(r:Int)) ∘ λk:Nat=>(0:Int)+(k:Int))=λk:Nat=>decide (k=r):=by
  funext k
  show decide ((0:Int)+(k:Int)=(r:Int))=decide (k=r);by_cases z:k=r
  ·rw[a_ z,a_ ()]
  ·rw[bz z,bz ()]
 rw[e2,range_one h];simp
theorem IV:∀(T:List<|ag),(T.map λr=>(r.length:Int)).sum=((T.map List.length).sum:Nat)
 | []=>rfl
 | r::T=>by rw[bH,cO,IV T,bH,cO];lia
def II(r:ag)(x:Int):((iw 0 (r.length:Int)).filter λk=>decide<|x<r.getD k.toNat 0).map A.int=(Tb.gs r x).map λk:Nat=>A.int (k:Int):=by
 unfold iw Tb.gs;rw[d8,bV];have e:((r.length:Int)-0).toNat=r.length:=()
 rw[e];have e2:((λk:Int=>decide<|x<r.getD k.toNat 0) ∘ λk:Nat=>(0:Int)+(k:Int))=λk:Nat=>decide (x<r.getD k 0):=by
  funext k;simp
 rw[e2];refine List.map_congr_left λk _=>?_;simp
def getD_at{r:ag}{k:Nat}(h:k<r.length):r[k]?=some (r.getD k 0):=by rw[aG,aF h];rfl
def n9{r:ag}{i:Int}{k:Nat}(h:i=k)(hk:k<r.length):j9 (r.map A.int) i=some (.int<|r.getD k 0):=rF h<|getD_at hk
theorem vp:∀(bs:List Bool),A.G4 (bs.map .bl)=some bs
 | []=>rfl
 | b::bs=>by show(A.G4<|bs.map .bl).map (b::·)=_;rw[vp bs];rfl
end Am
namespace Sy
open Tb
abbrev rX (r:ag):Prop:=r.Pairwise (·<=·)
abbrev Fits (u r:ag):Prop:=u.length<=r.length/\∀(j:Nat) (x y:Int),r[j]?=some x->u[j]?=some y->x<y
abbrev iP:List (ag)->Prop
 | []=>True
 | r::T=>r≠[]/\rX r/\(∀u,T.head?=some u->Fits u r)/\iP T
def mJ{r:ag}{x:Int}{j:Nat}{y:Int}(h:j<fg r x)(hy:r[j]?=some y):y<=x:=by
 obtain⟨d,e⟩:=aI.mp hy;have:=eL (xs:=r) (p:=λy=>decide<|x<y) (i:=j) h;rw[<- e];simpa using this
def xF{r:ag}{x y:Int}(hy:r[fg r x]?=some y):x<y:=by
 obtain⟨d,e⟩:=aI.mp hy;have:=dN (xs:=r) (p:=λy=>decide<|x<y) (w:=d);rw[<- e];exact fQ this
def C1{r:ag}{x y:Int}{p:Nat}(hy:r[p]?=some y)(h:x<y):fg r x<=p:=by
 rcases c8 p (fg r x)with z|z
 ·exact absurd (mJ z hy) ()
 ·exact z
abbrev hd (T:List<|ag)(y:Int):ag:=match T with
 | []=>[y]
 | u::_=>if fg u y=u.length then u++[y]else u.set (fg u y) y
def DH(T:List<|ag)(y:Int):(put T y).head?=some (hd T y):=by
 cases T with
 | nil=>rfl
 | cons u T=>
  by_cases h:fg u y=u.length
  ·rw[lu h];show _=some (if _ then _ else _);rw[aX h];rfl
  ·rw[nM h];show _=some (if _ then _ else _);rw[aZ h];rfl
def Cj{r:ag}{T:List<|ag}{p:Nat}{x y:Int}(hp:r[p]?=some y)(hxy:x<y)(hb:∀j z,j<p->r[j]?=some z->z<=x)(hf:∀u,T.head?=some u->Fits u r):Fits (hd T y) (r.set p x):=by
 obtain⟨k,B⟩:=aI.mp hp;have g:∀(q:Nat) (z:Int),q<=p->(r.set p x)[q]?=some z->z<y:=λq z F d=>by
  rw[dG]at d;by_cases e:p=q
  ·rw[aX e,aX k]at d;have:=aR d;lia
  ·rw[aZ e]at d;have:=hb q z () d;lia
 cases T with
 | nil=>
  refine⟨by rw[bA];show 1<=_;lia,λj z w d hw=>?_⟩;have hw:([y]:ag)[j]?=some w:=hw
  cases j with
  | zero=>have:=aR hw;have:=g 0 z (cN _) d;lia
  | succ j=>simp at hw
 | cons u T=>
  obtain⟨t,hc⟩:=hf u rfl;have C:fg u y<=p:=by
   rcases c8 p u.length with z|z
   ·have m:=aF z;exact C1 m (hc p y _ hp m)
   ·exact b6 (D3 u y) z
  have f:∀(j:Nat) (z w:Int),(r.set p x)[j]?=some z->u[j]?=some w->z<w:=λj z w d hw=>by
   rw[dG]at d;by_cases e:p=j
   ·rw[aX e,aX k]at d;have:=aR d;have:=hc p y w hp (by rw[e];exact hw)
    lia
   ·rw[aZ e]at d;exact hc j z w d hw
  show Fits (if fg u y=u.length then u++[y]else u.set (fg u y) y) (r.set p x);by_cases h:fg u y=u.length
  ·rw[aX h];refine⟨by rw[bA,aM];show u.length+1<=_;lia,λj z w d hw=>?_⟩
   rcases c8 j u.length with q|q
   ·rw[aO q]at hw;exact f j z w d hw
   ·rw[bT q]at hw;have e:j-u.length=0:=by
     rcases Nat.eq_zero_or_pos (j-u.length)with z|z
     ·exact z
     ·rw[List.getElem?_eq_none<|by show([y]:ag).length<=_;exact z]at hw;cases hw
    rw[e]at hw;have:=aR hw;have:=g j z () d
    lia
  ·rw[aZ h];refine⟨by rw[bA,bA];exact t,λj z w d hw=>?_⟩;rw[dG]at hw;by_cases e:fg u y=j
   ·rw[aX e,aX<|tR h]at hw;have:=aR hw;have:=g j z () d
    lia
   ·rw[aZ e]at hw;exact f j z w d hw
def xq{r:ag}{x:Int}(h:rX r)(hx:∀y∈r,y<=x):rX (r++[x]):=by
 unfold rX;rw[dO];exact⟨h,by simp,λa d b hb=>by rw[aQ.mp hb];exact hx a d⟩
def FJ{r:ag}{x:Int}(h:fg r x=r.length):∀y∈r,y<=x:=λy hy=>by
 obtain⟨j,d,e⟩:=dJ.mp hy;exact mJ (r:=r) (j:=j) ()<|by rw[aF d,e]
def F6{r:ag}{x:Int}(h:rX r)(hf:fg r x≠r.length):rX (r.set (fg r x) x):=by
 have d:=tR hf;have m:=xF<|aF d;unfold rX at h ⊢;rw[cC]at h ⊢;intro i j g f k;rw[bA]at g f;rw[List.getElem_set,List.getElem_set];by_cases e1:fg r x=i
 ·rw[aX e1,aZ ()];have:=h (fg r x) j d f ()
  lia
 ·rw[aZ e1];by_cases e2:fg r x=j
  ·rw[aX e2];exact mJ (j:=i) () (aF g)
  ·rw[aZ e2];exact h i j g f k
theorem xO:∀{T:List<|ag}{x:Int},iP T->iP (put T x)
 | [],x,_=>⟨by simp,by show List.Pairwise _ _;simp,(λu h=>by cases h),trivial⟩
 | r::T,x,h=>by
  obtain⟨h1,h2,k,t⟩:=h;by_cases hf:fg r x=r.length
  ·rw[lu hf];refine⟨by simp,xq h2<|FJ hf,λu d=>?_,t⟩;obtain⟨C,g2⟩:=k u d;refine⟨by rw[aM];lia,λj a b g hb=>?_⟩;have m:=(aI.mp hb).1;rw[aO ()]at g;exact g2 j a b g hb
  ·rw[nM hf];have f:=tR hf;have hy:r[fg r x]?=some (r.getD (fg r x) 0):=by rw[aG,aF f];rfl
   refine⟨λz=>h1<|by simpa using z,F6 h2 hf,λu d=>?_,xO t⟩;rw[DH]at d;rw[<- aR d];exact Cj hy (xF hy) (λj z m B=>mJ m B) k
theorem ux(xs:ag):∀i,i<=xs.length->(tabs xs i).1=(xs.take i).foldl put []
 | 0,_=>rfl
 | i+1,h=>by
  show put (tabs xs i).1 (xs.getD i 0)=_;rw[ux xs i (),List.take_succ_eq_append_getElem (),List.foldl_append,aG,aF ()];rfl
theorem ug:∀(xs:ag) {T:List<|ag},iP T->iP (xs.foldl put T)
 | [],_,h=>h
 | x::xs,_,h=>ug xs<|xO h
end Sy
namespace K58
open PySem L2 Am
abbrev oz (S:gu)(b:Nat):Prop:=∃g st:Int,gm S b=some [.int g,.int st]/\0<=g/\0<=st/\st<4294967296
def oz.kp{c:Nat->Prop}(h:oz S b)(k:Kp c S S')(hb:¬c b):oz S' b:=by
 obtain⟨g,st,e,q⟩:=h;exact⟨g,st,k.lst b _ hb e,q⟩
def oz.lt{S:gu}(h:oz S b):b<S.length:=by obtain⟨_,_,e,_⟩:=h;exact jN e
def Gw{S:gu}{ns:ag}{k:Int}(h0:0<=k)(h1:k<=100):∃S',mw [.frz<|ns.map .int,.int k] S=.ok (.ref S.length) S'/\oz S' S.length/\kX S S':=by
 have g:BS (.int 10) (.int 18)=λS=>R.ok (.int 1000000000000000000) S:=by
  funext S;exact jz ⟨by decide,by decide,by decide⟩
 have j:∀x:Int,u5 (.int x) (.int 2147483647)=λS=>R.ok (.int<|x % 2147483647) S:=λx=>by funext S;exact vR ⋯
 have f:∀x:Int,yd (.int 7919) (.int x)=λS=>R.ok (.int<|7919 * x) S:=λx=>by funext S;exact Fy ⋯ ⋯
 have B:∀x:Int,0<=x % 2147483647:=λx=>ff _ ⋯;have m:∀x:Int,x % 2147483647<4294967296:=λx=>by have:=ef x (show(0:Int)<2147483647 by decide);lia
 have z:∀d:Int,∃S',((RS.seq (.nx [A.frz<|ns.map .int,.int k,.int d,.unb] S) (gP (g_ (eC<|.int 0)<|gW 3)
  (gP (sS (p7<|gC Lx (gk 2)<|gC BS (eC<|.int 10)<|eC<|.int 18) (g_ (gk 2)<|gW 3)<|kg)
  (iS<|ko<|gn (gk 3)<|gn (gC u5 (gC mh (gC mh (gk 2)<|gC yd (eC<|.int 7919)<|gk 1)<|eC<|.int 13)<|eC<|.int 2147483647)<|gy)))).end=.ok (.ref S.length) S')/\oz S' S.length/\kX S S':=by
  intro d;by_cases hc:1000000000000000000<=d
  ·dsimp[gT,bools,g,j,f,a_ hc];exact⟨_,rfl,⟨_,_,gJ,(),B _,m _⟩,Kp.refl.lay⟩
  ·dsimp[gT,bools,g,j,f,bz hc];exact⟨_,rfl,⟨_,_,gJ,dP 0,B _,m _⟩,Kp.refl.lay⟩
 unfold mw qx qJ;dsimp[gT,bools,kT,Nat.reduceAdd,Nat.reduceSub,aH];by_cases t:k<(ns.length:Int)
 ·have hn:k.toNat<ns.length:=()
  have C:j9 (ns.map A.int) k=some (.int ns[k.toNat]):=rF (k:=k.toNat) ()<|aF hn;rw[a_ t];dsimp[gT,bools,C];have:=z ns[k.toNat];simpa only [gT,bools]using this
 ·rw[bz t];dsimp[gT,bools];have:=z 0;simpa only [gT,bools]using this
def digit{m:Int}(h:oz S b)(h1:1<=m)(h2:m<1073741824):∃d S',gK [.ref b,.int m] S=.ok (.int d) S'/\0<=d/\d<m/\oz S' b/\Kp (·=b) S S':=by
 obtain⟨g,st,z,hg,hs,B⟩:=h;have hb:=jN z;have i0:uB 2 0=some 0:=uE rfl ⋯;have G:uB 2 1=some 1:=uE rfl ⋯;have j:∀d t f:Int,0<=d->d<m->0<=t->0<=f->f<4294967296->gK [.ref b,.int m] S=.ok (.int d) (S.set b<|.lst [.int t,.int f])->∃d S',gK [.ref b,.int m] S=.ok (.int d) S'/\0<=d/\d<m/\oz S' b/\Kp (·=b) S S':=
  λd t f K F J L C e=>⟨d,_,e,K,F,⟨t,f,jC hb,J,L,C⟩,Kp.refl.set<|.inl rfl⟩
 by_cases k:0<g
 ·refine j (g % m) (g / m) st (ff _ ()) (ef _ ()) (Int.ediv_nonneg hg ()) hs B ?_;unfold gK ly k_;rw[rJ];simp[z,y_,G8,k,vR<|show 0<m by lia,Ct (show 0<m by lia) h2,i0]
 ·have e1:0<=(st * 48271+11) % 2147483647:=ff _ ⋯;have e2:(st * 48271+11) % 2147483647<2147483647:=ef _ ⋯;have M:0<=(st * 48271+11) % 2147483647 / 8:=()
  refine j ((st * 48271+11) % 2147483647 / 8 * 69621 % 2147483629 % m) g ((st * 48271+11) % 2147483647) (ff _ ()) (ef _ ()) hg e1 () ?_;unfold gK ly k_;rw[rJ];simp[z,y_,G8,k,G,Fy (show -18446744073709551616<st by lia) (),vR<|show(0:Int)<2147483647 by decide,jC hb,Ct (show(0:Int)<8 by decide) ⋯,Fy (show -18446744073709551616<(st * 48271+11) % 2147483647 / 8 by lia) (),vR<|show(0:Int)<2147483629 by decide,vR<|show 0<m by lia]
theorem xS{v:Int}:∀(xs:ag),∃b,Kz S (.int v) (xs.map .int)=some b
 | []=>⟨_,rfl⟩
 | x::xs=>by
  obtain⟨b,e⟩:=xS (S:=S) (v:=v) xs;refine⟨(x == v) || b,?_⟩;show(oi S 12 (.int x)<|.int v).bind _=_;show Option.bind (some<|x == v) _=_;show Option.map _ (Kz S (.int v)<|xs.map .int)=_;rw[e];rfl
def Mf:BS (.int 10) (.int 9)=λS=>R.ok (.int 1000000000) S:=by funext S;exact jz ⟨by decide,by decide,by decide⟩
def yt{S:gu}{most:Int}(h:oz S b)(h0:0<=most)(h1:most<=100) :
  ∃(xs:ag) (L:Nat) (S':gu),jv [.ref b,.int most] S=.ok (.ref L) S'/\gm S' L=some (xs.map .int)/\(xs.length:Int)<=most/\(∀x∈xs,1<=x/\x<=1000000000)/\oz S' b/\Kp (·=b) S S'/\S.length<=L:=by
 obtain⟨d,S1,e1,d0,d1,M,k1⟩:=digit (m:=most+1) h () ();obtain⟨w,S2,e2,w0,w1,Y,k2⟩:=digit (m:=4) M ⋯ ⋯;obtain⟨base,B,b0,b1⟩:∃base:Int,j9 ([.int 3,.int 6,.int 1000000000,.int 40]:ae) w=some (.int base)/\1<=base/\base<=1000000000:=by
  rcases(by lia:w=0\/w=1\/w=2\/w=3)with z|z|z|z<;>subst z
  ·exact⟨3,rfl,by decide,by decide⟩
  ·exact⟨6,rfl,by decide,by decide⟩
  ·exact⟨1000000000,rfl,by decide,by decide⟩
  ·exact⟨40,rfl,by decide,by decide⟩
 have hbS:=h.lt;have l1:=k1.len;have l2:=k2.len;unfold jv lJ lV;dsimp[gT,bools,kT,Nat.reduceAdd,Nat.reduceSub,e1,e2,Mf,B];generalize hS3:S2++[O.lst [.int 3,.int 6,.int 1000000000,.int 40]]=S3;have k3:Kp (·=b) S S3:=by rw[<- hS3];exact(k1.trans k2).lay
 have hb3:oz S3 b:=by rw[<- hS3];exact Y.kp (c:=λ_=>False) Kp.refl.lay λz=>z
 have l3:S.length<=S3.length:=k3.len;have nb:S3.length≠b:=()
 refine lD (lo:=0) (hi:=d) (S1:=S3++[.lst []]) (jB (by dsimp[gT,bools])<|iZ () ())
  (λi τ S4=>∃(xs:ag) (F G:A),τ=[.ref b,.int most,.int d,.int w,.int base,.ref S3.length,F,G]/\gm S4 S3.length=some (xs.map .int)/\xs.length=i/\(∀x∈xs,1<=x/\x<=1000000000)/\oz S4 b/\Kp (·=b) S S4)
  (λr=>∃(xs:ag) (L:Nat) (S':gu),RS.end (RS.seq r _)=.ok (.ref L) S'/\gm S' L=some (xs.map .int)/\(xs.length:Int)<=most/\(∀x∈xs,1<=x/\x<=1000000000)/\oz S' b/\Kp (·=b) S S'/\S.length<=L)
  ⟨[],_,_,rfl,gJ,rfl,(λ_ h=>by cases h),hb3.kp (c:=λ_=>False) Kp.refl.lay λz=>z,k3.lay⟩ ?_ ?_
 ·rintro i τ S4 hi ⟨xs,F,G,rfl,N,j,hx,C,U⟩;left;obtain⟨e,S5,e5,f0,f1',W,k5⟩:=digit (m:=base) C b0 ();have f:=k5.lst _ _ nb N;have lL:=jN f;have t:∀l:Int,1<=l->l<=1000000000->∃(ys:ag) (F G:A),[A.ref b,.int most,.int d,.int w,.int base,.ref S3.length,.int<|0+(i:Int),.int l]=[.ref b,.int most,.int d,.int w,.int base,.ref S3.length,F,G]/\gm (S5.set S3.length<|.lst<|xs.map A.int++[.int l]) S3.length=some (ys.map .int)/\ys.length=i+1/\(∀x∈ys,1<=x/\x<=1000000000)/\oz (S5.set S3.length<|.lst<|xs.map A.int++[.int l]) b/\Kp (·=b) S (S5.set S3.length<|.lst<|xs.map A.int++[.int l]):=λl P Z=>by
   refine⟨xs++[l],_,_,rfl,by rw[jC lL,bF];rfl,by rw[aM,j];rfl,λx J=>?_,?_,(U.trans k5).set<|.inr l3⟩
   ·rcases bC.mp J with z|z
    ·exact hx x z
    ·rw[aQ.mp z];exact⟨P,Z⟩
   ·obtain⟨g,st,e,q⟩:=W;exact⟨g,st,by rw[iA nb];exact e,q⟩
  have k:gd (xs.length<sizeLine)=λr:Am.R A=>r:=by funext r;exact mz (show xs.length<16777216 by lia)
  unfold ng;dsimp[gT,bools,e5];by_cases hw:w=3
  ·rw[show(w == 3)=true by simpa using hw];obtain⟨bb,V⟩:=xS (S:=S5) (v:=1+e) xs;have K:Nl false (.int<|1+e) (.ref S3.length) S5=.ok (.bl bb) S5:=by
    show opt (gm S5 S3.length) _=_;rw[f,ie,V];rfl
   dsimp[gT,bools,K]
   cases bb with
   | true=>
    dsimp[gT,bools,f,aH,k];exact⟨_,_,rfl,t _ () ()⟩
   | false=>
    dsimp[gT,bools,f,aH,k];exact⟨_,_,rfl,t _ () ()⟩
  ·rw[show(w == 3)=false by simpa using hw];dsimp[gT,bools,f,aH,k];exact⟨_,_,rfl,t _ () ()⟩
 ·rintro τ S4 ⟨xs,F,G,rfl,N,j,hx,C,U⟩;dsimp[gT,bools];exact⟨xs,_,_,rfl,N,(),hx,C,U,l3⟩
def Gy{S:gu}{n:Nat}{T:List<|ag}{x:Int}(h:Tab S n rs T)(hl:T.length<=1000)(hr:∀i,(T.getD i []).length<=1000) :
  ∃(qs:am) (m:Nat) (S':gu),mj [.ref n,.int x] S=.ok (.ref m) S'/\Tab S' m qs (Tb.put T x)/\kX S S'/\∀r∈m::qs,S.length<=r:=by
 obtain⟨qs,m,S1,e1,h1,k1,F⟩:=tN (cap:=[]) (τ:=[.ref n,.int x,.unb,.unb,.unb]) (src:=jq<|gk 0) h (jM (by dsimp[gT,bools]) h.top) ();have hq1:=h1.len;unfold mj qL qu;dsimp[gT,bools,kT,Nat.reduceAdd,Nat.reduceSub,e1];refine AD (n:=m) (xs:=qs.map .ref) (S1:=S1) (jM (by dsimp[gT,bools]) h1.top)
  (λi τ S2=>∃(U:List<|ag) (y:Int) (Z J:A),τ=[.ref n,.int y,.ref m,Z,J]/\Tab S2 m qs U/\kX S S2/\U.length=T.length/\(∀j,(U.getD j []).length<=1000)/\Tb.put T x=U.take i++Tb.put (U.drop i) y)
  (λr=>∃N m' S',RS.end (RS.seq r _)=.ok (.ref m') S'/\Tab S' m' N (Tb.put T x)/\kX S S'/\∀r∈m'::N,S.length<=r) ⟨T,x,_,_,rfl,h1,k1,rfl,hr,rfl⟩ (λi τ S2 ⟨U,y,Z,J,_,h2,_⟩=>h2.top) ?_ ?_
 ·rintro i z τ S2 hz ⟨U,y,Z,J,rfl,h2,k2,hU,G,d⟩;rw[aS]at hz;obtain⟨r,C,rfl⟩:=bg.mp hz;obtain⟨hi,f⟩:=h2.rows.get C;generalize hR:U.getD i []=R at f;have hRl:R.length<=1000:=by rw[<- hR];exact G i
  have B:U.drop i=R::U.drop (i+1):=by
   rw[cX hi,<- hR,aG,aF hi];rfl
  have fr:S.length<=r:=F r<|aK _<|bf C;refine⟨[.ref n,.int y,.ref m,.ref r,J],S2,rfl,?_⟩;have ec:=xC (cap:=[some 1,some 3]) (t:=p7<|gC GN (gC j5 (gk 2)<|gk 0)<|gk 1) (e:=gk 0) (τ:=[.ref n,.int y,.ref m,.ref r,J]) (src:=j_<|gI (f1 jd)<|gn (gk 3)<|gy) (S:=S2) (S1:=S2) (lo:=0) (hi:=(R.length:Int))
   (jB (by dsimp[gT,bools,f,aH])<|iZ () ()) (λk=>decide<|y<R.getD k.toNat 0) A.int
   (λk k0 k1=>by
    have:=n9 (r:=R) (i:=k) (k:=k.toNat) () ();dsimp[gT,bools,f,this]) (λk _ _ _=>by dsimp[gT,bools]) ()
  rw[II]at ec;unfold qV;dsimp[gT,bools,ec];have Y:gm (S2++[O.lst ((Tb.gs R y).map λk:Nat=>A.int (k:Int))]++[O.lst []]) S2.length=some ((Tb.gs R y).map λk:Nat=>A.int (k:Int)):=gZ gJ;have le:gm (S2++[O.lst ((Tb.gs R y).map λk:Nat=>A.int (k:Int))]++[O.lst []]) (S2++[O.lst ((Tb.gs R y).map λk:Nat=>A.int (k:Int))]).length=some []:=gJ;have W:gm (S2++[O.lst ((Tb.gs R y).map λk:Nat=>A.int (k:Int))]++[O.lst []]) r=some (R.map .int):=gZ<|gZ f;have L:Tab (S2++[O.lst ((Tb.gs R y).map λk:Nat=>A.int (k:Int))]++[O.lst []]) m qs U:=h2.nB Kp.refl.lay.lay;have V:kX S (S2++[O.lst ((Tb.gs R y).map λk:Nat=>A.int (k:Int))]++[O.lst []]):=k2.lay.lay;have eE:=ya<|eq_nil Y le;dsimp[gT,bools,eE];obtain⟨g1,g2⟩:=Tb.Ah R y;by_cases g:Tb.fg R y=R.length
  ·right;rw[g1 g];rw[g1 g,cK]at W L V;dsimp[gT,bools,cK,List.isEmpty_nil,aZ bh,W,aH,mz<|show R.length<16777216 by lia];have M:=L.set (i:=i) (r:=r) (ys:=R++[y]) C;rw[bF]at M;refine⟨_,_,rfl,qs,m,_,rfl,?_,V.set<|.inr fr,F⟩;have e5:Tb.put T x=U.set i (R++[y]):=by
    rw[d,B,Tb.lu g,cV,aX hi]
   rw[e5];exact M
  ·left;obtain⟨t,ht⟩:=g2 g;have P:=Tb.tR g;rw[ht];rw[ht]at W L V Y;have e0:j9 (((Tb.fg R y::t).map λk:Nat=>A.int (k:Int))) 0=some (.int (Tb.fg R y:Int)):=y_;have e1:j9 (R.map A.int) (Tb.fg R y:Int)=some (.int<|R.getD (Tb.fg R y) 0):=n9 rfl P;have e2:uB R.length (Tb.fg R y:Int)=some (Tb.fg R y):=uE rfl P;dsimp[gT,bools,bH,List.isEmpty_cons,aZ bh];rw[bH]at W L V Y e0;dsimp[gT,bools,W,Y,e0,e1,aH,e2,uJ<|show([_,_]:ae).length<=16777216 by simp,jz<|show([_,_]:ae).length=2 from rfl];have M:=L.set (i:=i) (r:=r) (ys:=R.set (Tb.fg R y) y) C;rw[map_set]at M;refine⟨_,_,rfl,U.set i<|R.set (Tb.fg R y) y,_,_,_,rfl,M,V.set<|.inr fr,by rw[bA];exact hU,λj=>?_,?_⟩
   ·rw[aG,dG];by_cases hj:i=j
    ·rw[aX hj,aX hi];simpa using hRl
    ·rw[aZ hj,<- aG];exact G j
   ·have e6:∀R',U.set i R'=U.take i++R'::U.drop (i+1):=λR'=>by rw[cV,aX hi]
    rw[d,B,Tb.nM g,e6];have l1:(U.take i).length=i:=by rw[dQ];lia
    rw[List.take_append,List.drop_append,l1,Nat.add_sub_cancel_left,List.take_of_length_le (by lia:(U.take i).length<=i+1),cL (by lia:(U.take i).length<=i+1)];simp
 ·rintro τ S2 ⟨U,y,Z,J,rfl,h2,k2,hU,G,d⟩;rw[aH,hq1,<- hU,fX,List.drop_length]at d;have hc:=h2.cat (ys:=[y]);have hql:=h2.len;dsimp[gT,bools];rw[LW (xs:=qs.map .ref) (ys:=[.ref S2.length]) (gZ<|gZ h2.top) gJ<|by simp;lia];refine⟨qs++[S2.length],_,_,rfl,?_,k2.lay.lay.lay,λr K=>?_⟩
  ·rw[d];exact hc
  ·have l2:=k2.len
   rcases br.mp K with z|z
   ·rw[z];dsimp[aM];lia
   ·rcases bC.mp z with z|z
    ·exact F r (aK _ z)
    ·rw[aQ.mp z];lia
def xD{S:gu}{xs:ag}(h:gm S L=some (xs.map .int))(hl:xs.length<=100) :
  ∃(rs qs:am) (n m:Nat) (S':gu),je [.ref L] S=.ok (.tup [.ref n,.ref m]) S'/\Tab S' n rs (Tb.tabs xs xs.length).1/\Tab S' m qs (Tb.tabs xs xs.length).2/\kX S S'/\(∀r∈n::rs,S.length<=r)/\(∀r∈m::qs,S.length<=r)/\∀r∈n::rs,r∉m::qs:=by
 unfold je mK mP;dsimp[gT,bools,kT,Nat.reduceAdd,Nat.reduceSub];have lb:(S++[O.lst []]).length=S.length+1:=by rw[aM];rfl
 refine lD (lo:=0) (hi:=(xs.length:Int)) (S1:=S++[.lst []]++[.lst []]) (jB (by dsimp[gT,bools,gZ<|gZ h,aH])<|iZ () ())
  (λi τ S1=>∃(rs qs:am) (n:Nat) (a3 a4 a5:A),τ=[.ref L,.ref n,.ref (S++[O.lst []]).length,a3,a4,a5]/\Tab S1 n rs (Tb.tabs xs i).1/\Tab S1 (S++[O.lst []]).length qs (Tb.tabs xs i).2/\kX S S1/\(∀r∈n::rs,S.length<=r)/\(∀r∈(S++[O.lst []]).length::qs,S.length<=r)/\∀r∈n::rs,r∉(S++[O.lst []]).length::qs)
  (λq=>∃(rs qs:am) (n m:Nat) (S':gu),RS.end (RS.seq q _)=.ok (.tup [.ref n,.ref m]) S'/\Tab S' n rs (Tb.tabs xs xs.length).1/\Tab S' m qs (Tb.tabs xs xs.length).2/\kX S S'/\(∀r∈n::rs,S.length<=r)/\(∀r∈m::qs,S.length<=r)/\∀r∈n::rs,r∉m::qs)
  ⟨[],[],S.length,_,_,_,rfl,Tab.nil<|gZ gJ,Tab.nil gJ,Kp.refl.lay.lay,(λr d=>by rw[aQ.mp d];exact aN _),(λr d=>by rw[aQ.mp d,lb];lia),λr d hq=>by rw[aQ.mp d]at hq;have:=aQ.mp hq;lia⟩ ?_ ?_
 ·rintro i τ S1 hi ⟨rs,qs,n,a3,a4,a5,rfl,hT,V,Y,fr,P,dj⟩;left;generalize hm:(S++[O.lst []]).length=m at V P dj;have hi':i<xs.length:=()
  obtain⟨z1,z2⟩:=Tb.xX xs i;have hx:j9 (xs.map A.int) (0+(i:Int))=some (.int<|xs.getD i 0):=n9 () hi';obtain⟨U,mo,S2,e2,Z,k2,fm⟩:=Gy (x:=xs.getD i 0) hT () (λj=>by have:=z2 j;lia);have g:=hT.nB k2;have W:=V.nB k2;have hl2:=(Y.trans k2).lst _ _ (λz=>z) h;generalize hX:xs.getD i 0=x at hx e2 Z;generalize hTT:(Tb.tabs xs i).1=T at hT g Z z1 z2;generalize hQQ:(Tb.tabs xs i).2=Q at V W;have hQl:Q.length=T.length:=by rw[<- hQQ,<- hTT];exact Tb.CN xs i
  have G:=Tb.uF T x;have hrl:=Tb.uX T x;have hrN:Tb.row T x<(Tb.put T x).length:=by rw[G];split<;>lia
  have lT:=g.len;have lM:=Z.len;have lQ:=W.len;have hN:(Tb.put T x).length<=101:=by rw[G];split<;>lia
  have ec:=xC (cap:=[some 1,some 4]) (t:=Bw (p7<|gC (qN false) (gk 0)<|gI (f1 jd)<|gn (gk 1)<|gy)<|p7<|gC F5 (gI (f1 jd)<|gn (gC j5 (gk 1)<|gk 0)<|gy)<|gI (f1 jd)<|gn (gC j5 (gk 2)<|gk 0)<|gy) (e:=gk 0)
   (τ:=[.ref L,.ref n,.ref m,.int<|0+(i:Int),.ref mo,a5]) (src:=j_<|gI (f1 jd)<|gn (gk 4)<|gy) (S:=S2) (S1:=S2) (lo:=0) (hi:=((Tb.put T x).length:Int))
   (jB (by dsimp[gT,bools,Z.top,aH,lM])<|iZ () ()) (λk=>decide<|k=(Tb.row T x:Int)) A.int
   (λk c0 c1=>by
    dsimp[gT,bools,g.top,aH,lT];by_cases hk:k=(T.length:Int)
    ·rw[show(k == (T.length:Int))=true by simpa using hk];dsimp[gT,bools];have:Tb.row T x=T.length:=by
      rw[G]at c1;by_cases z:Tb.row T x=T.length
      ·exact z
      ·rw[aZ z]at c1;lia
     rw[a_ ()]
    ·rw[show(k == (T.length:Int))=false by simpa using hk];have hkT:k.toNat<T.length:=by
      rw[G]at c1;by_cases z:Tb.row T x=T.length
      ·rw[aX z]at c1;lia
      ·rw[aZ z]at c1;lia
     have a1:j9 (rs.map A.ref) k=some (.ref<|rs.getD k.toNat 0):=jS (k:=k.toNat) () (by rw[aS,aG,aF<|show k.toNat<rs.length by lia];rfl);have a2:j9 (U.map A.ref) k=some (.ref<|U.getD k.toNat 0):=jS (k:=k.toNat) () (by rw[aS,aG,aF<|show k.toNat<U.length by lia];rfl);have b1:=(g.rows.get (i:=k.toNat) (r:=rs.getD k.toNat 0)<|by rw[aG,aF<|show k.toNat<rs.length by lia];rfl).2;have b2:=(Z.rows.get (i:=k.toNat) (r:=U.getD k.toNat 0)<|by rw[aG,aF<|show k.toNat<U.length by lia];rfl).2;have b3:=Tb.JA T x k.toNat;dsimp[gT,bools,g.top,Z.top,a1,a2,b1,b2,aH];by_cases z:k.toNat=Tb.row T x
     ·rw[aX z]at b3;rw[a_ (),a_ ()]
     ·rw[aZ z]at b3;rw[bz (),bz ()]) (λk _ _ _=>by dsimp[gT,bools]) ()
  rw[FT hrN]at ec;have e0:j9 ([.int (Tb.row T x:Nat)]:ae) 0=some (.int (Tb.row T x:Nat)):=y_;generalize hS3:S2++[O.lst [.int (Tb.row T x:Nat)]]=S3 at ec;have g3:gm S3 S2.length=some [.int (Tb.row T x:Nat)]:=by rw[<- hS3];exact gJ
  have M:kX S2 S3:=by rw[<- hS3];exact Kp.refl.lay
  have f:=W.nB M;have N:=Z.nB M;have k3:kX S S3:=(Y.trans k2).trans M;unfold nF;dsimp[gT,bools,Y.lst _ _ (λz=>z) h,hx,e2,ec,g3,e0,f.top,aH,lQ,hQl];have l3:S.length<=S3.length:=k3.len;have l23:=M.len;have l12:=k2.len;have nx:Tb.tabs xs (i+1)=(Tb.put T x,Tb.add Q (Tb.row T x)<|(i:Int)+1):=by rw[<- hTT,<- hQQ,<- hX];rfl
  have frM:∀r∈mo::U,S1.length<=r:=fm;have F:=V.lt;have K:m∈m::qs:=aY ..;by_cases d:Tb.row T x=T.length
  ·rw[show(((Tb.row T x:Nat):Int) == (T.length:Int))=true by rw[d];simp];have lm:gm (S3++[O.lst []]) m=some (qs.map .ref):=gZ f.top;have hP:=f.push (ys:=[]);rw[cK]at hP;have hPq:=hP.rows.get (i:=qs.length) (r:=S3.length) (by simp);have g4:=hPq.2;have e4:(Q++[([]:ag)]).getD qs.length []=[]:=by rw[aG,lQ];simp
   rw[e4,cK]at g4;have C:j9 ((qs++[S3.length]).map A.ref) (Tb.row T x:Int)=some (.ref S3.length):=jS (k:=qs.length) () (by simp);have B:=hP.top;rw[bF]at B C g4;dsimp[gT,bools,f.top,lm,aH,mz<|show qs.length<16777216 by lia];dsimp[bH,cK]at B C g4;dsimp[gT,bools,B,C,g4,gc,mz<|show 0<16777216 by decide];have h5:=hP.set (i:=qs.length) (r:=S3.length) (ys:=[(i:Int)+1]) (by simp);have s5:(Q++[[]]).set qs.length [(i:Int)+1]=Tb.add Q (Tb.row T x) ((i:Int)+1):=by
    rw[show Tb.row T x=Q.length by lia,Tb.yN,lQ];simp
   rw[s5,bF]at h5;dsimp[bH,cK,f_]at h5;have kk:Kp (λa=>a∈m::qs\/S3.length<=a) S3 (((S3++[O.lst []]).set m<|O.lst<|List.map A.ref qs++[A.ref S3.length]).set S3.length<|O.lst<|[]++[A.int<|(i:Int)+1]):=(Kp.refl.lay.set<|.inl<|.inl K).set<|.inr<|aN _;refine⟨_,_,rfl,U,qs++[S3.length],mo,_,_,_,rfl,?_,?_,?_,λr d=>b6 Y.len<|fm r d,λr d=>?_,λr d hq=>?_⟩
   ·rw[nx];refine N.kp (c:=λa=>a∈m::qs\/S3.length<=a) ?_ λr d z=>?_
    ·simpa[eN]using kk
    ·rcases z with z|z
     ·exact absurd (F r z) (by have:=fm r d;lia)
     ·exact absurd (N.lt r d) ()
   ·rw[nx];simpa[eN]using h5
   ·have:kX S (((S3++[O.lst []]).set m<|O.lst<|List.map A.ref qs++[A.ref S3.length]).set S3.length<|O.lst<|[]++[A.int<|(i:Int)+1]):=(k3.lay.set<|.inr<|P m K).set<|.inr l3;simpa[eN]using this
   ·rcases br.mp d with z|z
    ·rw[z];exact P m K
    ·rcases bC.mp z with z|z
     ·exact P r (aK _ z)
     ·rw[aQ.mp z];exact l3
   ·have hrf:=fm r d;have hrl:=N.lt r d
    rcases br.mp hq with z|z
    ·have:=F m K;lia
    ·rcases bC.mp z with z|z
     ·have:=F r<|aK _ z;lia
     ·have:=aQ.mp z;lia
  ·rw[show(((Tb.row T x:Nat):Int) == (T.length:Int))=false by rw[dU];lia];have hrq:Tb.row T x<qs.length:=()
   generalize hq0:qs.getD (Tb.row T x) 0=q;have J:qs[Tb.row T x]?=some q:=by rw[<- hq0,aG,aF hrq];rfl
   have g4:=(f.rows.get J).2;have C:j9 (qs.map A.ref) (Tb.row T x:Int)=some (.ref q):=jS rfl (by rw[aS,J];rfl);have hbq:(Q.getD (Tb.row T x) []).length<=100:=by
    have e:=Tb.jY Q<|Tb.row T x;have:=Tb.jy xs i;rw[hTT,hQQ]at this;rw[<- e,this,Tb.jY];have:=z2<|Tb.row T x;lia
   have hmq:q∈m::qs:=aK _<|bf J;dsimp[gT,bools,f.top,C,g4,aH,mz<|show(Q.getD (Tb.row T x) []).length<16777216 by lia];have h5:=f.set (i:=Tb.row T x) (r:=q) (ys:=Q.getD (Tb.row T x) []++[(i:Int)+1]) J;rw[<- Tb.DT Q (Tb.row T x) _ (),bF]at h5;have kk:Kp (·∈m::qs) S3 (S3.set q<|O.lst<|(Q.getD (Tb.row T x) []).map A.int++[A.int<|(i:Int)+1]):=Kp.refl.set<|.inl hmq;refine⟨_,_,rfl,U,qs,mo,_,_,_,rfl,?_,?_,?_,λr d=>b6 Y.len<|fm r d,λr d=>?_,λr d hq=>?_⟩
   ·rw[nx];refine N.kp (c:=(·∈m::qs)) ?_ λr d z=>?_
    ·simpa[eN]using kk
    ·exact absurd (F r z) (by have:=fm r d;lia)
   ·rw[nx];simpa[eN]using h5
   ·have:kX S (S3.set q<|O.lst<|(Q.getD (Tb.row T x) []).map A.int++[A.int<|(i:Int)+1]):=k3.set<|.inr<|P q hmq;simpa[eN]using this
   ·exact P r d
   ·have:=fm r d;have:=F r hq
    lia
 ·rintro τ S1 ⟨rs,qs,n,a3,a4,a5,rfl,hT,V,Y,fr,P,dj⟩;rw[show((xs.length:Int)-0).toNat=xs.length by lia]at hT V;dsimp[gT,bools,uJ<|show([_,_]:ae).length<=16777216 by simp];exact⟨rs,qs,n,_,_,rfl,hT,V,Y,fr,P,dj⟩
def Kc{n:Nat}{T:List<|ag}(h:Tab S n rs T)(h':Tab S m qs T)(hl:T.length<=1000)(hr:∀i,(T.getD i []).length<=1000):∃S',jw [.ref n,.ref m] S=.ok (.bl true) S'/\kX S S':=by
 have C:=pH<|h.eq h';rw[a_ rfl]at C;have K:=h.len;unfold jw lN l_;dsimp[gT,bools,kT,Nat.reduceAdd,Nat.reduceSub,h.top,fh,show qY .lst "list" = some true from rfl,C,cF];refine AD (n:=n) (xs:=rs.map .ref) (S1:=S) (jM (by dsimp[gT,bools]) h.top)
  (λi τ S1=>(∃g,τ=[.ref n,.ref m,g])/\kX S S1)
  (λr=>∃S',RS.end (RS.seq r _)=.ok (.bl true) S'/\kX S S') ⟨⟨_,rfl⟩,Kp.refl⟩ (λi τ S1 ⟨_,k⟩=>k.lst _ _ (λz=>z) h.top) ?_ ?_
 ·rintro i z τ S1 F ⟨⟨g,rfl⟩,k⟩;rw[aS]at F;obtain⟨r,f,rfl⟩:=bg.mp F;have d:=k.lst _ _ (λz=>z) (h.rows.get f).2;have j:=hr i;generalize T.getD i []=R at d j;refine⟨[.ref n,.ref m,.ref r],S1,rfl,.inl ?_⟩;have B:=wV (cap:=[]) (t:=iL) (e:=q_ (gI (f2 rj)<|gn (gk 0)<|gn (eC<|.ty "int")<|gy)<|DY<|gI (f2 rj)<|gn (gk 0)<|gn (eC<|.ty "bool")<|gy) (τ:=[.ref n,.ref m,.ref r]) (src:=jq<|gk 2) (jM (by dsimp[gT,bools]) d) d (λ_=>true) (λ_=>.bl true)
   (λx hx=>by dsimp[gT,bools]) (λx hx _=>by
    obtain⟨v,_,rfl⟩:=cu.mp hx;dsimp[gT,bools,show qY .int "int" = some true from rfl,show qY .int "bool" = some false from rfl,Bool.not_false]) (by rw[aH];lia)
  have J:((R.map A.int).filter λ_=>true).map (λ_=>A.bl true)=(R.map λ_=>true).map A.bl:=by
   rw[cJ.mpr λ_ _=>rfl,bV,bV];rfl
  rw[J]at B;have G:wY (.ref S1.length) (S1++[O.lst<|(R.map λ_=>true).map A.bl])=.ok (.bl true) (S1++[O.lst<|(R.map λ_=>true).map A.bl]):=by
   show opt (gm _ S1.length) _=_;rw[gJ,ie,vp,ie];congr 2;simp
  unfold nh;dsimp[gT,bools,d,fh,show qY .lst "list" = some true from rfl,cF,B,G];exact⟨_,_,rfl,⟨_,rfl⟩,k.lay⟩
 ·rintro τ S1 ⟨⟨g,rfl⟩,k⟩;dsimp[gT,bools];exact⟨_,rfl,k⟩
end K58
namespace Sy
open Tb
abbrev ls (r:ag)(y:Int):Nat:=(r.findIdx λz=>decide<|y<=z)-1
abbrev jf:List (ag)->Nat->Int×List (ag)
 | [],_=>(0,[])
 | r::T,0=>(r.getLastD 0,r.dropLast::T)
 | r::T,a+1=>(r.getD (ls r (jf T a).1) 0,r.set (ls r (jf T a).1) (jf T a).1::(jf T a).2)
abbrev pad (T:List<|ag)(n:Nat):List (ag):=T++List.replicate (n-T.length) []
def K8{r:ag}{y:Int}{p:Nat}(hp:p<r.length)(h1:∀j z,j<=p->r[j]?=some z->z<y)(h2:∀j z,p<j->r[j]?=some z->y<=z):ls r y=p:=by
 have a:¬r.findIdx (λz=>decide<|y<=z)<=p:=λc=>by
  have d:r.findIdx (λz=>decide<|y<=z)<r.length:=()
  have:=dN (xs:=r) (p:=λz=>decide<|y<=z) (w:=d);have:=h1 _ _ c<|aF d;simp at *;lia
 have b:r.findIdx (λz=>decide<|y<=z)<=p+1:=by
  rcases c8 (p+1) (r.findIdx λz=>decide<|y<=z)with c|c
  ·exfalso;have d:p+1<r.length:=by have:=eK (xs:=r) (p:=λz=>decide<|y<=z);lia
   have q:=eL (xs:=r) (p:=λz=>decide<|y<=z) (i:=p+1) c;have:=h2 (p+1) _ (bw _)<|aF d;simp at q;lia
  ·exact c
 unfold ls
 lia
def lA{r:ag}(h:rX r){i j:Nat}{x y:Int}(hij:i<=j)(hx:r[i]?=some x)(hy:r[j]?=some y):x<=y:=by
 rcases Nat.lt_or_eq_of_le hij with c|c
 ·obtain⟨f,e1⟩:=aI.mp hx;obtain⟨d,e2⟩:=aI.mp hy;rw[<- e1,<- e2];exact cC.mp h i j f d c
 ·subst c;rw[hx]at hy;cases hy;exact dP _
theorem ze:∀{T:List<|ag}{x:Int},(∀r∈T,rX r)->jf (put T x) (row T x)=(x,pad T (put T x).length)
 | [],x,_=>rfl
 | r::T,x,h=>by
  by_cases c:fg r x=r.length
  ·rw[lu c,qi c];show((r++[x]).getLastD 0,(r++[x]).dropLast::T)=_;unfold pad;simp
  ·have hp:=tR c;have hy:r[fg r x]?=some (r.getD (fg r x) 0):=by rw[aG,aF hp];rfl
   have k:=xF hy;have t:=ze (T:=T) (x:=r.getD (fg r x) 0) λq m=>h q<|aK _ m;have B:=h r<|aY ..;rw[nM c,sJ c];have e:ls (r.set (fg r x) x) (r.getD (fg r x) 0)=fg r x:=by
    refine K8 (by rw[bA];exact hp) (λj z g f=>?_) λj z g f=>?_
    ·rcases Nat.lt_or_eq_of_le g with d|d
     ·rw[bM ()]at f;have:=mJ d f
      lia
     ·rw[d,bO hp]at f
      cases f;exact k
    ·rw[bM ()]at f;exact lA B (cE g) hy f
   show((r.set (fg r x) x).getD (ls _ (jf (put T _)<|row T _).1) 0,(r.set (fg r x) x).set (ls _ (jf (put T _)<|row T _).1) (jf (put T _)<|row T _).1::(jf (put T _)<|row T _).2)=_;rw[t];show((r.set (fg r x) x).getD (ls _<|r.getD (fg r x) 0) 0,(r.set (fg r x) x).set (ls _<|r.getD (fg r x) 0) (r.getD (fg r x) 0)::pad T _)=_;rw[e,f6];refine Prod.ext ?_ ?_
   ·show(r.set (fg r x) x).getD (fg r x) 0=x;rw[aG,bO hp];rfl
   ·show r.set (fg r x) (r.getD (fg r x) 0)::pad T _=pad (r::T) _;have:r.set (fg r x) (r.getD (fg r x) 0)=r:=by
     rw[aG,aF hp];exact eO hp
    rw[this];unfold pad;rw[bB,bB,eS];rfl
def uW{r:ag}{y z:Int}{q:Nat}(h:rX r)(hz:r[q]?=some z)(hlt:z<y):q<=ls r y/\ls r y<r.length/\(∀j z,j<=ls r y->r[j]?=some z->z<y)/\∀j z,ls r y<j->r[j]?=some z->y<=z:=by
 have k:=(aI.mp hz).1;have B:=eK (xs:=r) (p:=λz=>decide<|y<=z);have b:∀j w,j<r.findIdx (λz=>decide<|y<=z)->r[j]?=some w->w<y:=λj w f hw=>by
  have m:=eL (xs:=r) (p:=λz=>decide<|y<=z) (i:=j) f;obtain⟨d,e⟩:=aI.mp hw;rw[e]at m;simp at m;lia
 have a:q<r.findIdx λz=>decide (y<=z):=by
  rcases c8 q (r.findIdx λz=>decide<|y<=z)with c|c
  ·exact c
  ·exfalso;have d:r.findIdx (λz=>decide<|y<=z)<r.length:=()
   have m:=dN (xs:=r) (p:=λz=>decide<|y<=z) (w:=d);have:=lA h c (aF d) hz;simp at m;lia
 refine⟨by unfold ls;lia,by unfold ls;lia,λj w f hw=>b j w (by unfold ls at f;lia) hw,λj w f hw=>?_⟩;have g:r.findIdx (λz=>decide<|y<=z)<=j:=by unfold ls at f;lia
 have t:=(aI.mp hw).1;have d:r.findIdx (λz=>decide<|y<=z)<r.length:=()
 have m:=dN (xs:=r) (p:=λz=>decide<|y<=z) (w:=d);have:=lA h g (aF d) hw;simp at m;lia
def IM{r:ag}(h:∀(i j:Nat) (x y:Int),i<j->r[i]?=some x->r[j]?=some y->x<=y):rX r:=
 cC.mpr λi j g f d=>h i j _ _ d (aF g)<|aF f
abbrev m_ (T:List<|ag)(a:Nat):Prop:=a<T.length/\∀u,T[a+1]?=some u->u.length<(T.getD a []).length
theorem rQ:∀{T:List<|ag}{a:Nat},iP T->m_ T a->∃T',iP T'/\(jf T a).2=pad T' T.length/\put T' (jf T a).1=T/\row T' (jf T a).1=a/\T'.length<=T.length /\
  ∃(u:ag) (q:Nat),T.head?=some u/\u[q]?=some (jf T a).1/\∀u',T'.head?=some u'->u'.length<=u.length/\(∀(j:Nat) (z:Int),q<=j->u'[j]?=some z->(jf T a).1<z)/\∀(j:Nat) (z:Int),u'[j]?=some z->∃z0,u[j]?=some z0/\z0<=z
 | [],a,_,c=>absurd c.1 (cj _)
 | r::T,0,h,c=>by
  obtain⟨h1,h2,V,L⟩:=h;have rl:0<r.length:=bX.mpr h1;have f:r[r.length-1]?=some (r.getLastD 0):=by
   rw[dS,cY];rw[aF ()];rfl
  have app:r.dropLast++[r.getLastD 0]=r:=by
   rw[dS,eY h1];exact fj h1
  have Y:r.dropLast.length=r.length-1:=dI;have F:∀j z,r.dropLast[j]?=some z->j<r.length-1/\r[j]?=some z:=λj z d=>by
   have C:=(aI.mp d).1;refine⟨(),?_⟩;rw[<- app,aO C];exact d
  show ∃T',iP T'/\r.dropLast::T=pad T' (T.length+1)/\put T' (r.getLastD 0)=r::T/\row T' (r.getLastD 0)=0/\T'.length<=T.length+1/\∃(u:ag) (q:Nat),some r=some u/\u[q]?=some (r.getLastD 0)/\_;by_cases e:r.dropLast=[]
  ·have rl1:r.length=1:=by rw[e]at Y;simp at Y;lia
   have eT:T=[]:=by
    cases T with
    | nil=>rfl
    | cons u U=>
     have:=c.2 u rfl;have nz:=bX.mpr L.1;simp at this
     lia
   subst eT;refine⟨[],trivial,by rw[e];rfl,?_,rfl,cN _,r,r.length-1,rfl,f,λu' k=>by cases k⟩;show[[r.getLastD 0]]=[r];rw[e]at app;rw[<- app];rfl
  ·have fl:fg r.dropLast (r.getLastD 0)=r.dropLast.length:=by
    rcases c8 (fg r.dropLast<|r.getLastD 0) r.dropLast.length with z|z
    ·exfalso;have g:=aF z;have N:=xF g;have g2:=F _ _ g;have:=lA h2 (cE g2.1) g2.2 f
     lia
    ·exact Nat.le_antisymm (D3 _ _) z
   refine⟨r.dropLast::T,⟨e,h2.sublist<|List.dropLast_sublist _,λu k=>⟨?_,λj x y hx hy=>(V u k).2 j x y (F j x hx).2 hy⟩,L⟩,?_,?_,qi fl,aN _,r,r.length-1,rfl,f,λu' k=>?_⟩
   ·have:=c.2 u (by rw[dw,<- List.head?_eq_getElem?];exact k);simp at this
    lia
   ·unfold pad;simp
   ·rw[lu fl,app]
   ·cases k
    exact⟨(),λj z C d=>absurd (F j z d).1 (),λj z d=>⟨z,(F j z d).2,dP _⟩⟩
 | r::T,a+1,h,c=>by
  obtain⟨h1,h2,V,L⟩:=h;have c':m_ T a:=⟨by have:=c.1;simp at this;lia,λu k=>by have:=c.2 u (by rw[dw];exact k);simpa using this⟩;obtain⟨T',t1,t2,t3,t4,t5,u,q,k,hq,hh⟩:=rQ L c';generalize hy:(jf T a).1=y at *
  have K:=V u k;have ql:=(aI.mp hq).1;have qr:q<r.length:=by have:=K.1;lia
  have rq:r[q]?=some r[q]:=aF qr;obtain⟨s1,G,s3,W⟩:=uW h2 rq<|K.2 q _ _ rq hq;generalize hP:ls r y=P at *
  have J:r[P]?=some (r.getD P 0):=by rw[aG,aF G];rfl
  generalize hx:r.getD P 0=x at *
  have Z:=s3 P x (aN _) J;have t:(r.set P y)[P]?=some y:=bO G;have B:∀j,j≠P->(r.set P y)[j]?=r[j]?:=λj C=>bM<|cB C;have M:fg (r.set P y) x=P:=by
   have l1:=C1 t Z
   rcases c8 (fg (r.set P y) x) P with z|z
   ·exfalso;have hl:fg (r.set P y) x<(r.set P y).length:=by rw[bA];lia
    have g:=aF hl;have N:=xF g;rw[B _ ()]at g;have:=lA h2 (cE z) g J
    lia
   ·lia
  have tk:jf (r::T) (a+1)=(x,r.set P y::(jf T a).2):=by
   show(r.getD (ls r (jf T a).1) 0,r.set (ls r (jf T a).1) (jf T a).1::(jf T a).2)=_;rw[hy,hP,hx]
  rw[tk];refine⟨r.set P y::T',⟨λz=>h1<|List.length_eq_zero_iff.mp<|by rw[<- bA (i:=P) (a:=y),z];rfl,IM λi j v w O hv hw=>?_,λu' m=>⟨?_,λj v w hv hw=>?_⟩,t1⟩,?_,?_,?_,by simpa using t5,r,P,rfl,J,λu' m=>?_⟩
  ·by_cases e1:i=P
   ·rw[e1,t]at hv;cases hv;rw[B j ()]at hw;exact W j w () hw
   ·rw[B i e1]at hv;by_cases e2:j=P
    ·rw[e2,t]at hw;cases hw;have:=s3 i v () hv
     lia
    ·rw[B j e2]at hw;exact lA h2 (cE O) hv hw
  ·have:=(hh u' m).1;have:=K.1;rw[bA];lia
  ·obtain⟨_,k2,k3⟩:=hh u' m;by_cases e1:j=P
   ·rw[e1,t]at hv;cases hv;exact k2 j w () hw
   ·rw[B j e1]at hv;obtain⟨z0,N,g2⟩:=k3 j w hw;have:=K.2 j v z0 hv N
    lia
  ·show r.set P y::(jf T a).2=_;rw[t2];unfold pad;rw[bB,bB,eS];rfl
  ·show put (r.set P y::T') x=r::T;rw[nM<|by rw[M,bA];lia,M,f6];have g:(r.set P y).getD P 0=y:=by rw[aG,t];rfl
   rw[g,t3,<- hx];congr 1;rw[aG,aF G];exact eO G
  ·show row (r.set P y::T') x=a+1;rw[sJ<|by rw[M,bA];lia,M];have g:(r.set P y).getD P 0=y:=by rw[aG,t];rfl
   rw[g,t4]
  ·cases m
   refine⟨by rw[bA];exact aN _,λj z C d=>?_,λj z d=>?_⟩
   ·by_cases e1:j=P
    ·rw[e1,t]at d;cases d;exact Z
    ·rw[B j e1]at d;have:=W j z () d
     lia
   ·by_cases e1:j=P
    ·rw[e1,t]at d;cases d;exact⟨x,by rw[e1];exact J,()⟩
    ·rw[B j e1]at d;exact⟨z,d,dP _⟩
end Sy
namespace Sy
open Tb
abbrev wh (Q:List<|ag)(k:Int):Nat:=Q.findIdx λq=>decide<|k∈q
def kh(q:ag)(Q:List<|ag)(k:Int):wh (q::Q) k=if k∈q then 0 else wh Q k+1:=by
 unfold wh;rw[List.findIdx_cons];by_cases c:k∈q
 ·rw[aX c,a_ c];rfl
 ·rw[aZ c,bz c];rfl
theorem zN:∀{Q:List<|ag}{i:Nat}{m:Int},(∀q∈Q,m∉q)->i<=Q.length->wh (add Q i m) m=i
 | [],i,m,_,h=>by
  have:i=0:=by simpa using h
  subst this;show wh [[m]] m=0;rw[kh,aX<|aQ.mpr rfl]
 | q::Q,0,m,h,_=>by
  show wh ((q++[m])::Q) m=0;rw[kh,aX<|by simp]
 | q::Q,i+1,m,h,hl=>by
  show wh (q::add Q i m) m=_;rw[kh,aZ<|h q<|aY ..,zN (λp hp=>h p<|aK _ hp)<|by simpa using hl]
theorem zQ:∀{Q:List<|ag}{i:Nat}{k m:Int},k≠m->(∃q∈Q,k∈q)->wh (add Q i m) k=wh Q k
 | [],i,k,m,_,h=>by obtain⟨q,f,_⟩:=h;cases f
 | q::Q,0,k,m,hn,h=>by
  show wh ((q++[m])::Q) k=_;rw[kh,kh];have:k∈q++[m] ↔ k∈q:=by simp[hn]
  by_cases c:k∈q
  ·rw[aX<|this.mpr c,aX c]
  ·rw[aZ λz=>c<|this.mp z,aZ c]
 | q::Q,i+1,k,m,hn,h=>by
  show wh (q::add Q i m) k=_;rw[kh,kh];by_cases c:k∈q
  ·rw[aX c,aX c]
  ·rw[aZ c,aZ c,zQ hn];obtain⟨p,hp,d⟩:=h
   rcases br.mp hp with e|e
   ·rw[e]at d;exact absurd d c
   ·exact⟨p,e,d⟩
theorem rB:∀{Q:List<|ag}{i:Nat}{m k:Int},(∃q∈add Q i m,k∈q) ↔ (k=m\/∃q∈Q,k∈q)
 | [],i,m,k=>by show(∃q∈[[m]],k∈q) ↔ _;simp
 | q::Q,0,m,k=>by
  show(∃p∈(q++[m])::Q,k∈p) ↔ _;dsimp[br,exists_eq_or_imp,bC,aQ];constructor
  ·rintro((h|h)|h)
   ·exact .inr (.inl h)
   ·rcases h with h|h
    ·exact .inl h
    ·cases h
   ·exact .inr<|.inr h
  ·rintro(h|h|h)
   ·exact .inl (.inr<|.inl h)
   ·exact .inl (.inl h)
   ·exact .inr h
 | q::Q,i+1,m,k=>by
  show(∃p∈q::add Q i m,k∈p) ↔ _;dsimp[br,exists_eq_or_imp];rw[rB (Q:=Q)];constructor
  ·rintro(h|h|h)
   ·exact .inr (.inl h)
   ·exact .inl h
   ·exact .inr<|.inr h
  ·rintro(h|h|h)
   ·exact .inr (.inl h)
   ·exact .inl h
   ·exact .inr<|.inr h
theorem qq:∀(T:List<|ag) (x:Int),row T x<(put T x).length/\row T x<=T.length
 | [],x=>⟨bw _,aN _⟩
 | r::T,x=>by
  by_cases c:fg r x=r.length
  ·rw[lu c,qi c];exact⟨Nat.succ_pos _,cN _⟩
  ·rw[nM c,sJ c];have:=qq T<|r.getD (fg r x) 0;exact⟨eW this.1,fV this.2⟩
def pU(r:ag)(T:List<|ag)(m:Nat):pad (r::T) (m+1)=r::pad T m:=by
 unfold pad;rw[bB,eS];rfl
theorem qk:∀{T:List<|ag}{a m:Nat},a<T.length->T.length<=m->jf (pad T m) a=((jf T a).1,pad (jf T a).2 m)
 | [],a,m,h,_=>absurd h (cj _)
 | r::T,0,m,_,hm=>by
  obtain⟨m,rfl⟩:∃k,m=k+1:=⟨m-1,by simp at hm;lia⟩;rw[pU];show(r.getLastD 0,r.dropLast::pad T m)=(r.getLastD 0,pad (r.dropLast::T)<|m+1);rw[pU]
 | r::T,a+1,m,h,hm=>by
  obtain⟨m,rfl⟩:∃k,m=k+1:=⟨m-1,by simp at hm;lia⟩;rw[pU];show(r.getD (ls r (jf (pad T m) a).1) 0,r.set (ls r (jf (pad T m) a).1) (jf (pad T m) a).1::(jf (pad T m) a).2)=(r.getD (ls r (jf T a).1) 0,pad (r.set (ls r (jf T a).1) (jf T a).1::(jf T a).2)<|m+1);rw[qk (by simpa using h)<|by simpa using hm,pU]
def vH{T:List<|ag}(h:T.length<=l)(hm:l<=m):pad (pad T l) m=pad T m:=by
 unfold pad;rw[bK,List.replicate_append_replicate,aM,cU];congr 2
 lia
abbrev qO (ro:Nat->Nat):Nat->List (ag)->ag
 | 0,_=>[]
 | k+1,P=>qO ro k (jf P<|ro<|k+1).2++[(jf P<|ro<|k+1).1]
theorem pO:∀{T:List<|ag},iP T->∀r∈T,rX r
 | [],_,r,h=>nomatch h
 | q::T,⟨_,h2,_,h4⟩,r,h=>by
  rcases br.mp h with e|e
  ·rw[e];exact h2
  ·exact pO h4 r e
def qE(xs:ag){n:Nat}(h:n<=xs.length):iP (tabs xs n).1:=by
 rw[ux xs n h];exact ug _ trivial
def uF(T:List<|ag)(x:Int):T.length<=(put T x).length:=by
 have:=b_ List.length<|jc T x;rw[aH]at this;rw[this];have:∀(l:am) (i:Nat),l.length<=(bump l i).length:=λl=>by
  induction l with
  | nil=>intro i;exact cN _
  | cons n l d=>
   intro i
   cases i with
   | zero=>exact aN _
   | succ i=>exact fV<|d i
 have:=this (T.map List.length)<|row T x;rw[aH]at this;exact this
theorem xg(xs:ag)(ro:Nat->Nat):∀(n:Nat),n<=xs.length->∀(m:Nat),(∀k,k<n->ro (k+1)=row (tabs xs k).1 (xs.getD k 0))->(tabs xs n).1.length<=m->qO ro n (pad (tabs xs n).1 m)=xs.take n
 | 0,_,_,_,_=>rfl
 | n+1,h,m,hr,hm=>by
  have f:=qE xs (n:=n) ();have e:(tabs xs<|n+1).1=put (tabs xs n).1 (xs.getD n 0):=rfl;rw[e]at hm ⊢;have d:=uF (tabs xs n).1<|xs.getD n 0;have k:jf (pad (put (tabs xs n).1<|xs.getD n 0) m) (ro<|n+1)=(xs.getD n 0,pad (tabs xs n).1 m):=by
   rw[hr n<|bw _,qk (qq _ _).1 hm,ze<|pO f];show(_,pad (pad _ _) m)=_;rw[vH d hm]
  show qO ro n (jf _<|ro<|n+1).2++[(jf _<|ro<|n+1).1]=_;rw[k];show qO ro n (pad (tabs xs n).1 m)++[xs.getD n 0]=_;rw[xg xs ro n () m (λj g=>hr j ()) (),gh,aG,aF ()];rfl
theorem vt(xs:ag):∀(n:Nat),(∀q∈(tabs xs n).2,∀k∈q,1<=k/\k<=n)/\(∀k:Nat,k<n->∃q∈(tabs xs n).2,((k:Int)+1)∈q)/\∀k:Nat,k<n->wh (tabs xs n).2 ((k:Int)+1)=row (tabs xs k).1 (xs.getD k 0)
 | 0=>⟨(λq g=>nomatch g),λk f=>absurd f<|cj _,λk f=>absurd f<|cj _⟩
 | n+1=>by
  obtain⟨a,b,c⟩:=vt xs n;have e:(tabs xs<|n+1).2=add (tabs xs n).2 (row (tabs xs n).1<|xs.getD n 0) ((n:Int)+1):=rfl;rw[e];refine⟨λq g k f=>?_,λk f=>?_,λk f=>?_⟩
  ·rcases rB.mp ⟨q,g,f⟩with z|⟨p,hp,z⟩
   ·lia
   ·have:=a p hp k z;lia
  ·by_cases d:k=n
   ·subst d;exact rB.mpr (.inl rfl)
   ·exact rB.mpr<|.inr<|b k ()
  ·by_cases d:k=n
   ·subst d;refine zN (λq g z=>?_) ?_
    ·have:=a q g _ z;lia
    ·have l:=b_ List.length<|jy xs k;rw[aH,aH]at l;rw[l];exact(qq _ _).2
   ·rw[zQ ()<|b k (),c k ()]
end Sy
namespace Sy
open Tb
theorem vE:∀{Q:List<|ag}{m:Int},iP Q->(∀q∈Q,∀k∈q,k<=m)->(∃q∈Q,m∈q)->∃Q',Q=add Q' (wh Q m) m/\iP Q'/\wh Q m<=Q'.length/\m_ Q (wh Q m)/\Q.flatten.Perm (m::Q'.flatten) /\
  ∀u',Q'.head?=some u'->∃u,Q.head?=some u/\u' <+: u
 | [],m,_,_,h=>by obtain⟨q,Z,_⟩:=h;cases Z
 | q::Q,m,⟨h1,h2,h3,h4⟩,hm,hx=>by
  rw[kh];by_cases c:m∈q
  ·rw[aX c];have ql:0<q.length:=bX.mpr h1;have t:q[q.length-1]?=some m:=by
    obtain⟨i,V,e⟩:=List.getElem_of_mem c;have a:=lA h2 (i:=i) (j:=q.length-1) () (aF V)<|aF ();have b:=hm q (aY ..) _ (b8<|show q.length-1<q.length by lia);rw[aF ()];rw[e]at a;congr 1;lia
   have app:q.dropLast++[m]=q:=by
    have:=fj h1;have e:q.getLast h1=m:=by
     have:=cY (l:=q);rw[t,eY h1]at this;exact aR this
    rw[e]at this;exact this
   have N:q.dropLast.length=q.length-1:=dI;have f:∀u,Q.head?=some u->u.length<q.length:=λu d=>by
    have F:=h3 u d
    rcases c8 u.length q.length with z|z
    ·exact z
    ·exfalso;have M:q.length-1<u.length:=()
     have:=F.2 (q.length-1) _ _ t<|aF M;have K:u∈Q:=List.mem_of_mem_head? (by rw[d];rfl);have:=hm u (aK _ K) _ (b8 M)
     lia
   have B:m_ (q::Q) 0:=⟨Nat.succ_pos _,λu d=>by
    rw[dw,<- List.head?_eq_getElem?]at d;have:=f u d;simpa using this⟩
   by_cases e:q.dropLast=[]
   ·have P:Q=[]:=by
     cases Q with
     | nil=>rfl
     | cons u U=>
      have a:=f u rfl;have:=bX.mpr h4.1;rw[e]at N;simp at N
      lia
    subst P;rw[e]at app;refine⟨[],?_,trivial,aN _,B,?_,λu' d=>by cases d⟩
    ·rw[<- app];rfl
    ·rw[<- app];exact dM _
   ·refine⟨q.dropLast::Q,?_,⟨e,h2.sublist<|List.dropLast_sublist _,λu d=>⟨?_,λj x y g hy=>?_⟩,h4⟩,cN _,B,?_,λu' d=>?_⟩
    ·show q::Q=(q.dropLast++[m])::Q;rw[app]
    ·have:=f u d;lia
    ·have W:=(aI.mp g).1;refine(h3 u d).2 j x y ?_ hy;rw[<- app,aO W];exact g
    ·show(q++Q.flatten).Perm (m::(q.dropLast++Q.flatten))
     conv=>lhs;rw[<- app]
     rw[bK];exact eX
    ·cases d
     exact⟨q,rfl,List.dropLast_prefix _⟩
  ·rw[aZ c];have g:∃p∈Q,m∈p:=by
    obtain⟨p,hp,J⟩:=hx
    rcases br.mp hp with e|e
    ·rw[e]at J;exact absurd J c
    ·exact⟨p,e,J⟩
   obtain⟨Q',t1,t2,t3,O,Y,t6⟩:=vE h4 (λp hp=>hm p<|aK _ hp) g;refine⟨q::Q',b_ (q::·) t1,⟨h1,h2,λu' d=>?_,t2⟩,by simpa using t3,⟨eW O.1,λu d=>?_⟩,?_,λu' d=>⟨q,rfl,by cases d;exact cQ _⟩⟩
   ·obtain⟨u,G,C⟩:=t6 u' d;have F:=h3 u G;refine⟨b6 C.length_le F.1,λj x y L hy=>F.2 j x y L ?_⟩;obtain⟨w,rfl⟩:=C;rw[aO (aI.mp hy).1];exact hy
   ·rw[dw]at d;have:=O.2 u d;simpa using this
   ·show(q++Q.flatten).Perm (m::(q++Q'.flatten));exact((List.Perm.append_left q Y).trans eX)
theorem se:∀{l l':am}{a:Nat},(∀k∈l,0<k)->(∀k∈l',0<k)->a<=l.length->a<=l'.length->bump l a=bump l' a->l=l'
 | [],[],_,_,_,_,_,_=>rfl
 | [],n::l',a,_,h',ha,_,e=>by
  have:a=0:=by simpa using ha
  subst this;have e:[1]=(n+1)::l':=e;have:=h' n (aY ..)
  injection e with e1 e2
  lia
 | n::l,[],a,h,_,_,ha,e=>by
  have:a=0:=by simpa using ha
  subst this;have e:(n+1)::l=[1]:=e;have:=h n (aY ..)
  injection e with e1 e2
  lia
 | n::l,k::l',0,_,_,_,_,e=>by
  have e:(n+1)::l=(k+1)::l':=e
  injection e with e1 e2
  rw[e2,show n=k by lia]
 | n::l,k::l',a+1,h,h',ha,ha',e=>by
  have e:n::bump l a=k::bump l' a:=e
  injection e with e1 e2
  rw[e1,se (λz d=>h z<|aK _ d) (λz d=>h' z<|aK _ d) (by simpa using ha) (by simpa using ha') e2]
theorem mG:∀{T:List<|ag},iP T->∀k∈T.map List.length,0<k
 | [],_,k,h=>nomatch h
 | q::T,⟨h1,_,_,h4⟩,k,h=>by
  rcases br.mp h with e|e
  ·rw[e];exact bX.mpr h1
  ·exact mG h4 k e
theorem vW(ys zs:ag):∀n,n<=ys.length->tabs (ys++zs) n=tabs ys n
 | 0,_=>rfl
 | n+1,h=>by
  show(put (tabs (ys++zs) n).1<|(ys++zs).getD n 0,add (tabs (ys++zs) n).2 (row (tabs (ys++zs) n).1<|(ys++zs).getD n 0)<|(n:Int)+1)=_;rw[vW ys zs n ()];have:(ys++zs).getD n 0=ys.getD n 0:=by rw[aG,aO (),<- aG]
  rw[this];rfl
theorem v5(ro:Nat->Nat):∀(N:Nat) {P Q:List<|ag}{m:Nat},iP P->iP Q->P.map List.length=Q.map List.length->Q.flatten.Perm (L2.iw 1<|(N:Int)+1)->(∀k:Nat,k<N->ro (k+1)=wh Q ((k:Int)+1))->P.length<=m ->
  (qO ro N<|pad P m).length=N/\tabs (qO ro N<|pad P m) N=(P,Q)
 | 0,P,Q,m,hP,hQ,hs,hp,_,_=>by
  have U:Q=[]:=by
   cases Q with
   | nil=>rfl
   | cons q Q=>
    have:=hp.length_eq;have:=bX.mpr hQ.1;rw[bE,aM]at *
    have z:(L2.iw 1<|((0:Nat):Int)+1).length=0:=rfl
    lia
  subst U;have eP:P=[]:=List.map_eq_nil_iff.mp hs;subst eP;exact⟨rfl,rfl⟩
 | N+1,P,Q,m,hP,hQ,hs,hp,hr,hm=>by
  have B:∀k:Int,(∃q∈Q,k∈q) ↔ 1<=k/\k<((N+1:Nat):Int)+1:=λk=>by
   rw[<- L2.kI,<- hp.mem_iff,cR]
  obtain⟨t,J,M,q3,f,Z,_⟩:=vE (m:=(N:Int)+1) hQ (λq hq k Y=>by have:=(B k).mp ⟨q,hq,Y⟩;lia)<|(B _).mpr ⟨(),()⟩;have ra:=hr N<|bw _;generalize ha:wh Q ((N:Int)+1)=a at *
  have K:m_ P a:=by
   have l:∀i:Nat,(P[i]?).map List.length=(Q[i]?).map List.length:=λi=>by rw[<- aS,<- aS,hs]
   have G:P.length=Q.length:=by have:=b_ List.length hs;simpa using this
   refine⟨by rw[G];exact f.1,λu hu=>?_⟩;have e1:=l<|a+1;rw[hu]at e1;obtain⟨w,hw,e⟩:=bg.mp e1.symm;have k:=f.2 w hw;have e2:=l a;rw[aF<|by rw[G];exact f.1,aF f.1]at e2;rw[aG,aF f.1]at k;rw[aG,aF<|by rw[G];exact f.1];have e2:=aR e2;dsimp[di]at k ⊢
   lia
  obtain⟨d,p1,p2,L,F,p5,_⟩:=rQ hP K;generalize hx:(jf P a).1=x at *
  have V:d.map List.length=t.map List.length:=by
   refine se (a:=a) (mG p1) (mG M) ?_ (by rw[aH];exact q3) ?_
   ·rw[aH,<- F];exact(qq _ _).2
   ·rw[<- ou t a ((N:Int)+1),<- J,<- hs,<- L,jc,F]
  have k:jf (pad P m) (ro<|N+1)=(x,pad d m):=by
   rw[ra,qk K.1 hm,p2,hx,vH p5 hm]
  have C:t.flatten.Perm (L2.iw 1<|(N:Int)+1):=by
   have e:L2.iw 1 (((N+1:Nat):Int)+1)=L2.iw 1 ((N:Int)+1)++[(N:Int)+1]:=by
    unfold L2.iw;rw[show(((N+1:Nat):Int)+1-1).toNat=N+1 by lia,show((N:Int)+1-1).toNat=N by lia,d9,bF];show _++[1+(N:Int)]=_;rw[f7 1]
   rw[e]at hp;have:=(Z.symm.trans hp).trans<|dF (l₁:=L2.iw 1<|(N:Int)+1) (l₂:=[(N:Int)+1]);exact(List.perm_cons _).mp this
  obtain⟨O,W⟩:=v5 ro N (P:=d) (Q:=t) (m:=m) p1 M V C (λj hj=>by
   rw[hr j (),J,zQ ()];have:((j:Int)+1)∈L2.iw 1 ((N:Int)+1):=L2.kI.mpr ⟨(),()⟩;rw[<- C.mem_iff,cR]at this;exact this) ()
  show(qO ro N (jf _<|ro<|N+1).2++[(jf _<|ro<|N+1).1]).length=_/\tabs (qO ro N (jf _<|ro<|N+1).2++[(jf _<|ro<|N+1).1]) (N+1)=_;rw[k];show(qO ro N (pad d m)++[x]).length=_/\tabs (qO ro N (pad d m)++[x]) (N+1)=_;refine⟨by rw[aM,O];rfl,?_⟩;show(put (tabs (qO ro N (pad d m)++[x]) N).1<|(qO ro N (pad d m)++[x]).getD N 0,add (tabs (qO ro N (pad d m)++[x]) N).2 (row (tabs (qO ro N (pad d m)++[x]) N).1<|(qO ro N (pad d m)++[x]).getD N 0)<|(N:Int)+1)=_;have g:(qO ro N (pad d m)++[x]).getD N 0=x:=by
   rw[aG,bT (),O,bY];rfl
  rw[vW _ _ N (),W,g];show(put d x,add t (row d x)<|(N:Int)+1)=_;rw[L,F,<- J]
end Sy
namespace K58
open PySem L2 Am
def IY{r:Nat}{R:ag}{y z:Int}{q:Nat}(h:gm S r=some (R.map .int))(hl:R.length<=1000)(hI:Sy.rX R)(hq:R[q]?=some z)(hz:z<y):i7 [.ref r,.int y] S=.ok (.int (Sy.ls R y:Nat)) S:=by
 obtain⟨m,B,g,f⟩:=Sy.uW hI hq hz;unfold i7 kP kN;dsimp[gT,bools,kT,Nat.reduceAdd,Nat.reduceSub,h,aH];refine sA (λτ d=>d=S/\∃p:Nat,Sy.ls R y<=p/\p<R.length/\τ=[.ref r,.int y,.int (p:Int)])
  (λτ _=>match τ with
   | [_,_,.int i]=>i.toNat
   | _=>0)
  (λt=>RS.end (RS.seq t _)=.ok (.int (Sy.ls R y:Nat)) S) ?_ 1000000 _ _ ⟨rfl,R.length-1,(),(),b_ (λz=>[A.ref r,A.int y,A.int z]) ()⟩ ?_
 ·rintro τ d ⟨rfl,p,p1,p2,rfl⟩;have j:j9 (R.map A.int) (p:Int)=some (.int R[p]):=rF (k:=p) rfl<|aF p2;unfold mD mC;dsimp[gT,bools,h,j];by_cases c:p=Sy.ls R y
  ·left;have:=g p _ ()<|aF p2;refine⟨d,by rw[bz ()],?_⟩;dsimp[gT,bools,c]
  ·right;have:=f p _ ()<|aF p2;refine⟨d,by rw[a_ ()],.inl ⟨_,_,rfl,⟨rfl,p-1,(),(),b_ (λz=>[A.ref r,A.int y,A.int z]) ()⟩,?_⟩⟩;show((p:Int)-1).toNat<(p:Int).toNat
   lia
 ·show((R.length:Int)-1).toNat<1000000
  lia
end K58
namespace K58
open PySem L2 Am
def Dl{lo hi:Int}{c:Sm}{src:Ic}{τ:ae}(hs:src τ S=.ok (uA lo hi) S1)(Inv:Nat->ae->gu->Prop)(Post:RS->Prop)(h0:Inv 0 τ S1)
  (step:∀(i:Nat) τ S,i<(lo-hi).toNat->Inv i τ S->(∃τ' S',c (τ.set j<|.int<|lo-i) S=.nx τ' S'/\Inv (i+1) τ' S')\/(∃a S',c (τ.set j<|.int<|lo-i) S=.rt a S'/\Post (.rt a S')))
  (fin:∀τ S,Inv (lo-hi).toNat τ S->Post (.nx τ S)):Post (lU src (gW j) c τ S):=by
 unfold lU;rw[hs];refine uU (s:=uA lo hi) Inv Post (λi τ S d h=>?_) (λτ S h=>⟨rfl,fin τ S h⟩) _ 0 τ S1 rfl h0;have d:i<(lo-hi).toNat:=d;exact⟨.int<|lo-i,_,S,aX d,rfl,step i τ S d h⟩
open Sy (jf ls rX)
abbrev NZ (U:List<|ag)(a:Nat):Prop:=a<U.length/\U.getD a []≠[]/\∀j,j<a->rX (U.getD j [])/\∃(q:Nat) (z:Int),(U.getD j [])[q]?=some z/\z<(jf (U.drop<|j+1)<|a-j-1).1
def jU{U:List<|ag}(h:j<U.length):U.drop j=U.getD j []::U.drop (j+1):=by
 rw[aG,aF h];exact cX h
def z6{U:List<|ag}{r:ag}(h:j<U.length)(e:U.getD j []=r):(U.take (j+1)++W).set j r'=U.take j++r'::W:=by
 rw[gh,aF h];show(U.take j++[U[j]]++W).set j r'=_;rw[bK,List.set_append_right _ _<|by rw[dQ];lia,dQ,Nat.min_eq_left (),bY];rfl
def C6{U:List<|ag}{k:Nat}(h:j<k)(hk:k<=U.length):(U.take k++W).getD j []=U.getD j []:=by
 rw[aG,aO<|by rw[dQ];lia,dY h,<- aG]
def F9{n a:Nat}{rs:am}{U:List<|ag}(h:Tab S n rs U)(ok:NZ U a)(hl:U.length<=1000)(hr:∀i,(U.getD i []).length<=1000) :
  ∃S',kD [.ref n,.int (a:Int)] S=.ok (.int (jf U a).1) S'/\Tab S' n rs (jf U a).2/\Kp (·∈rs) S S':=by
 obtain⟨g,o2,o3⟩:=ok;have len:=h.len;have d:∀j,j<U.length->rs[j]?=some (rs.getD j 0):=λj t=>by rw[aG,aF ()];rfl
 have f:∀j,j<U.length->rs.getD j 0∈rs:=λj t=>bf<|d j t;have top:∀j,j<U.length->j9 (rs.map A.ref) (j:Int)=some (.ref<|rs.getD j 0):=λj t=>jS (k:=j) rfl (by rw[aS,d j t];rfl);have Z:=(h.rows.get<|d a g).2;have l0:0<(U.getD a []).length:=bX.mpr o2;have C:Ir (.ref<|rs.getD a 0) [] S=.ok (.int<|(U.getD a []).getLastD 0) (S.set (rs.getD a 0)<|.lst<|(U.getD a []).dropLast.map .int):=by
  show opt (gm S<|rs.getD a 0) _=_;rw[Z,ie];show opt (((U.getD a []).map A.int)[((U.getD a []).map A.int).length-1]?) _=_;rw[aH,aS,aF ()];show R.ok (A.int _) (S.set _<|.lst ((U.getD a []).map A.int).dropLast)=_;rw[<- List.map_dropLast,dS,cY,aF ()];rfl
 have t0:=h.set (ys:=(U.getD a []).dropLast)<|d a g;have e0:U.set a (U.getD a []).dropLast=U.take a++(jf (U.drop a)<|a-a).2:=by
  have:=z6 (U:=U) (W:=U.drop<|a+1) (r':=(U.getD a []).dropLast) g rfl;rw[eU]at this;rw[this,jU g,bY];rfl
 rw[e0]at t0;have P:Kp (·∈rs) S (S.set (rs.getD a 0)<|.lst<|(U.getD a []).dropLast.map .int):=Kp.refl.set<|.inl<|f a g;have x0:(U.getD a []).getLastD 0=(jf (U.drop a)<|a-a).1:=by rw[jU g,bY];rfl
 obtain⟨F,J⟩:∃F,F=S.set (rs.getD a 0) (.lst<|(U.getD a []).dropLast.map .int):=⟨_,rfl⟩;rw[<- J]at C t0 P;unfold kD oY pD;dsimp[gT,bools,kT,Nat.reduceAdd,Nat.reduceSub,h.top,top a g,C,Z,x0];refine Dl (lo:=(a:Int)-1) (hi:=-1) (S1:=F) (show p9 _ _=_ from wF (S1:=F) (S2:=F) (by dsimp[gT,bools]) (by dsimp[gT,bools]) (by dsimp[gT,bools]) (iZ () ())<|iZ ⋯ ⋯)
  (λi τ S'=>(∃M O,τ=[.ref n,.int (a:Int),.int (jf (U.drop<|a-i) i).1,M,O])/\Tab S' n rs (U.take (a-i)++(jf (U.drop<|a-i) i).2)/\Kp (·∈rs) S S')
  (λr=>∃S',RS.end (RS.seq r _)=.ok (.int (jf U a).1) S'/\Tab S' n rs (jf U a).2/\Kp (·∈rs) S S') ⟨⟨_,_,by rw[bY];rfl⟩,by rw[bY]at t0;exact t0,P⟩ ?_ ?_
 ·rintro i τ S1 hi ⟨⟨M,O,rfl⟩,m,L⟩;left;obtain⟨j,t⟩:∃j,a-i=j+1:=⟨a-i-1,()⟩;have ji:a-(i+1)=j:=()
  have B:j<U.length:=()
  rw[t]at m ⊢;obtain⟨c1,q,z,c2,K⟩:=o3 j ();rw[show a-j-1=i by lia]at K;have G:=(m.rows.get<|d j B).2;rw[C6 (bw _) ()]at G;have lk:=IY (S:=S1) G (hr j) c1 c2 K;obtain⟨_,Y,_,_⟩:=Sy.uW c1 c2 K;have N:=n9 (r:=U.getD j []) (i:=(ls (U.getD j []) (jf (U.drop<|j+1) i).1:Nat)) rfl Y;have t2:=m.set (ys:=(U.getD j []).set (ls (U.getD j []) (jf (U.drop<|j+1) i).1) (jf (U.drop<|j+1) i).1)<|d j B;rw[z6 B rfl]at t2;have ix:uB (U.getD j []).length ((ls (U.getD j []) (jf (U.drop<|j+1) i).1:Nat):Int)=some (ls (U.getD j []) (jf (U.drop<|j+1) i).1):=uE rfl Y;unfold qb;rw[show(a:Int)-1-(i:Int)=(j:Int)by lia];dsimp[gT,bools,m.top,top j B,lk,G,N,uJ<|show([_,_]:ae).length<=16777216 by simp,jz<|show([_,_]:ae).length=2 from rfl,aH,ix,<- map_set];rw[ji,jU B];exact⟨_,_,rfl,⟨_,_,rfl⟩,t2,L.set<|.inl<|f j B⟩
 ·rintro τ S1 ⟨⟨M,O,rfl⟩,m,L⟩;have V:(((a:Int)-1)-(-1)).toNat=a:=()
  rw[V,bY,cT]at m;refine⟨S1,?_,by simpa using m,L⟩;rw[V,bY,cT];dsimp[gT,bools]
end K58
namespace K58
open PySem L2 Am
theorem mq:∀{T:List<|ag}(k:Nat),Sy.iP T->Sy.iP (T.drop k)
 | [],k,_=>by rw[List.drop_nil];trivial
 | r::T,0,h=>h
 | r::T,k+1,h=>mq k h.2.2.2
def AN{T:List<|ag}(h:Sy.iP T)(hj:j<T.length)(hu:(T.drop<|j+1).head?=some u):Sy.Fits u (T.getD j []):=by
 have:=mq j h;rw[jU hj]at this;exact this.2.2.1 u hu
def zL{T:List<|ag}(h:j<T.length):(Sy.pad T m).getD j []=T.getD j []:=by
 unfold Sy.pad;rw[aG,aO h,<- aG]
def Fo{T:List<|ag}{k:Nat}(h:k<=T.length):(Sy.pad T m).drop k=Sy.pad (T.drop k) (m-k):=by
 unfold Sy.pad;rw[List.drop_append_of_le_length h,fY];congr 2
 lia
def Iz{T:List<|ag}{a:Nat}(h:Sy.iP T)(c:Sy.m_ T a)(hm:T.length<=m):NZ (Sy.pad T m) a:=by
 have hg:∀j,j<T.length->T.getD j []∈T:=λj f=>by
  rw[aG,aF f];exact b8 f
 refine⟨by unfold Sy.pad;rw[aM];have:=c.1;lia,?_,λj f=>?_⟩
 ·rw[zL c.1];have:=mq a h;rw[jU c.1]at this;exact this.1
 ·have g:j<T.length:=by have:=c.1;lia
  have C:=c.1;rw[zL g,Fo ()];refine⟨Sy.pO h _<|hg j g,?_⟩;have z:Sy.m_ (T.drop<|j+1) (a-j-1):=by
   refine⟨by rw[fY];lia,λu d=>?_⟩;rw[List.getElem?_drop,show j+1+(a-j-1+1)=a+1 by lia]at d;have:=c.2 u d;rw[aG,List.getElem?_drop,show j+1+(a-j-1)=a by lia,<- aG];exact this
  rw[Sy.qk z.1<|by rw[fY];lia];obtain⟨_,_,_,_,_,_,u,q,d,t,_⟩:=Sy.rQ (mq (j+1) h) z;have k:=AN h g d;have F:=(aI.mp t).1;have B:q<(T.getD j []).length:=by have:=k.1;lia
  exact⟨q,_,aF B,k.2 q _ _ (aF B) t⟩
end K58
namespace K58
open PySem L2 Am
def MJ{f g:A->A->gu->R A}{ca cb cc:Ex}{a:A}(h1:ca τ S=.ok a S)(h2:cb τ S=.ok b S)(h3:f a b S=.ok (.bl true) S)(h4:cc τ S=.ok c S):LU f g ca cb cc τ S=g b c S:=by
 unfold LU;rw[h1,R.iV,h2,R.iV,h3,R.iV];unfold Nz;show(cc τ S).bind _=_;rw[h4];rfl
theorem Bo{x:Int}(h1:1<=x)(h2:x<=1000000000):jA [.int x] S=.ok (.bl true) S:=by
 have e:kH [.int x] S=.ok (.bl true) S:=by
  unfold kH oO oU;dsimp[gT,bools,kT,Nat.reduceAdd,Nat.reduceSub,show qY .int "int" = some true from rfl,show qY .int "bool" = some false from rfl,Bool.not_false]
 unfold jA nV nX;dsimp[gT,Lq,bools,kT,Nat.reduceAdd,Nat.reduceSub,e,MJ (f:=Ht) (g:=Ht) (ca:=eC<|.int 1) (cb:=gk 0) (cc:=eC<|.int 1000000000) (τ:=[.int x]) (S:=S) (a:=.int 1) (b:=.int x) (c:=.int 1000000000) rfl (by dsimp[gT]) (by dsimp[gT,bools,a_ h1]) rfl,a_ h2]
def all_true{S:gu}{α:Type}(l:List α):wY (.ref S.length) (S++[O.lst<|(l.map λ_=>true).map A.bl])=.ok (.bl true) (S++[O.lst<|(l.map λ_=>true).map A.bl]):=by
 show opt (gm _ S.length) _=_;rw[gJ,ie,vp,ie];congr 2;simp
def uS{r:Nat}{R:ag}(h:gm S r=some (R.map .int))(hl:R.length<=1000)(hb:∀x∈R,1<=x/\x<=1000000000):∃S',jI [.ref r] S=.ok (.bl true) S'/\kX S S':=by
 have d:=wV (cap:=[]) (t:=iL) (e:=eFn jA<|gn (gk 0) gy) (τ:=[.ref r]) (src:=jq<|gk 0) (jM (by dsimp[gT,bools]) h) h (λ_=>true) (λ_=>.bl true)
  (λx hx=>by dsimp[gT,bools]) (λx hx _=>by
   obtain⟨v,hv,rfl⟩:=cu.mp hx;dsimp[gT,bools,Bo (hb v hv).1 (hb v hv).2]) (by rw[aH];lia)
 have f:((R.map A.int).filter λ_=>true).map (λ_=>A.bl true)=(R.map λ_=>true).map A.bl:=by
  rw[cJ.mpr λ_ _=>rfl,bV,bV];rfl
 rw[f]at d;unfold jI m9 m5;dsimp[gT,bools,kT,Nat.reduceAdd,Nat.reduceSub,h,fh,show qY .lst "list" = some true from rfl,d,all_true];exact⟨_,rfl,Kp.refl.lay⟩
def Bh{R:ag}(h:Sy.rX R):sortI R=R:=(sortI_perm R).eq_of_pairwise (λ_ _ _ _ a b=>gb a b) (qo R) h
def Gh{r:Nat}{R:ag}(h:gm S r=some (R.map .int))(hl:R.length<64)(hb:∀x∈R,1<=x/\x<=1000000000)(hn:R≠[])(hI:Sy.rX R):∃S',iG [.ref r] S=.ok (.bl true) S'/\kX S S':=by
 obtain⟨S1,e1,d⟩:=uS h () hb;have h1:=d.lst _ _ (λz=>z) h;have es:sP (.ref r) S1=.ok (.ref S1.length) (S1++[.lst<|R.map .int]):=by
  show opt (gm S1 r) _=_;rw[h1,ie];rw[ints_map,ie,jz hl,Bh hI]
 have h2:gm (S1++[O.lst<|R.map .int]) r=some (R.map .int):=gZ h1;have eq:=ya<|xQ (a:=r) (b:=S1.length) h2 gJ;rw[a_ rfl]at eq;have f:(0:Int)<(R.length:Int):=by have:=bX.mpr hn;lia
 unfold iG kE kQ;dsimp[gT,Lq,bools,kT,Nat.reduceAdd,Nat.reduceSub,e1,h1,aH,a_ f,es,eq];exact⟨_,rfl,d.lay⟩
end K58
namespace K58
open PySem L2 Am
def Ga{r q:Nat}{R U:ag}(hr:gm S r=some (R.map .int))(hq:gm S q=some (U.map .int))(hl:R.length<=1000)(ft:Sy.Fits U R):∃S',iR [.ref q,.ref r] S=.ok (.bl true) S'/\kX S S':=by
 have G:=ft.1;have f:uh (gk 1) (gk 0) [.ref q,.ref r] S=.ok (tM r q<|min (R.map A.int).length (U.map A.int).length) S:=Dh (S1:=S) (by dsimp[gT,bools]) (by dsimp[gT,bools]) hr hq;have m:min (R.map A.int).length (U.map A.int).length=U.length:=by rw[aH,aH];lia
 rw[m]at f;obtain⟨S',k,g2⟩:=oq (s:=tM r q U.length) (g:=DQ 2<|uD (gW 0)<|uD (gW 1) Cs) (t:=iL) (e:=gC F5 (gk 0)<|gk 1)
  (P:=λS1=>S1=S) (T:=λj=>∃y z,j=[y,z])
  (λi=>.tup [.int<|R.getD i 0,.int<|U.getD i 0]) (λ_=>true) (λ_=>.bl true)
  (λi S1 d e=>by
   subst e;have d:i<U.length:=d;show(gm S1 r).bind _=_;rw[hr];show(gm S1 q).bind _=_;rw[hq];show((R.map A.int)[i]?).bind _=_;rw[aS,aF (),aS,aF d,aG,aF (),aG,aF d];rfl)
  (λS1 e=>by
   subst e;show(match gm S1 r,gm S1 q with|some xs,some ys=>_|_,_=>_)=true;rw[hr,hq];simp)
  (λi τ S1 d ⟨y,z,e⟩ C=>by
   subst e C;have d:i<U.length:=d;have lt:=ft.2 i (R.getD i 0) (U.getD i 0) (by rw[aG,aF ()];rfl) (by rw[aG,aF d];rfl);refine⟨[.int<|R.getD i 0,.int<|U.getD i 0],S1,S1,by dsimp[gT,bools,jz<|show([_,_]:ae).length=2 from rfl],by dsimp[gT,bools],⟨_,_,rfl⟩,(λz=>by cases z),λ_=>⟨S1,by dsimp[gT,bools,a_ lt],rfl⟩⟩)
  U.length 0 [.unb,.unb] S (by show U.length+0=U.length;lia) ⟨_,_,rfl⟩ rfl
 subst g2;have F:((List.range' 0 U.length).filter λ_=>true).map (λ_=>A.bl true)=(U.map λ_=>true).map A.bl:=by
  rw[cJ.mpr λ_ _=>rfl,bV,dB,ee];show _=U.map λ_=>A.bl true;rw[dB]
 rw[F]at k;have B:iI [none,none] (uh (gk 1)<|gk 0) (DQ 2<|uD (gW 0)<|uD (gW 1) Cs) iL (gC F5 (gk 0)<|gk 1) [.ref q,.ref r] S'=.ok (.ref S'.length) (S'++[.lst<|(U.map λ_=>true).map A.bl]):=by
  unfold iI;rw[f,Am.R.iV];show Am.R.h_ (iU (tM r q U.length) _ _ _ U.length 0 [.unb,.unb] S') _=_;rw[k,Am.R.gY,iz<|by simp;lia]
 unfold iR mZ mW;dsimp[gT,Lq,bools,kT,Nat.reduceAdd,Nat.reduceSub,hr,hq,aH,a_<|show(U.length:Int)<=(R.length:Int)by lia,B,all_true];exact⟨_,rfl,Kp.refl.lay⟩
abbrev wG (T:List<|ag):Prop:=∀r∈T,∀x∈r,1<=x/\x<=1000000000
def v9{n:Nat}{T:List<|ag}(h:Tab S n rs T)(ht:Sy.iP T)(hb:wG T)(hl:T.length<=1000)(hr:∀i,(T.getD i []).length<64):∃S',jR [.ref n] S=.ok (.bl true) S'/\kX S S':=by
 have len:=h.len;have d:∀j,j<T.length->rs[j]?=some (rs.getD j 0):=λj C=>by rw[aG,aF ()];rfl
 have B:∀j,j<T.length->T.getD j []∈T:=λj C=>by rw[aG,aF C];exact b8 C
 have ne:∀j,j<T.length->T.getD j []≠[]:=λj C=>by
  have:=mq j ht;rw[jU C]at this;exact this.1
 obtain⟨S1,U,g2⟩:=oq (s:=g8 n T.length) (g:=gW 0) (t:=iL) (e:=eFn iG<|gn (gk 0) gy)
  (P:=λS1=>kX S S1) (T:=λm=>∃y,m=[y])
  (λi=>.ref<|rs.getD i 0) (λ_=>true) (λ_=>.bl true)
  (λi S1 f k=>by
   have f:i<T.length:=f;show(gm S1 n).bind _=_;rw[k.lst _ _ (λz=>z) h.top];show(rs.map A.ref)[i]?=_;rw[aS,d i f];rfl)
  (λS1 k=>by
   show(match gm S1 n with|some xs=>_|none=>_)=true;rw[k.lst _ _ (λz=>z) h.top];simp[len])
  (λi τ S1 f ⟨y,e⟩ k=>by
   subst e;have f:i<T.length:=f;have F:=k.lst _ _ (λz=>z) (h.rows.get<|d i f).2;obtain⟨S2,e2,J⟩:=Gh F (hr i) (hb _<|B i f) (ne i f)<|Sy.pO ht _<|B i f;exact⟨[.ref<|rs.getD i 0],S1,S1,by dsimp[gT,bools],by dsimp[gT,bools],⟨_,rfl⟩,(λz=>by cases z),λ_=>⟨S2,by dsimp[gT,bools,e2],k.trans J⟩⟩)
  T.length 0 [.unb] S (by show T.length+0=T.length;lia) ⟨_,rfl⟩ Kp.refl
 have Y:((List.range' 0 T.length).filter λ_=>true).map (λ_=>A.bl true)=(T.map λ_=>true).map A.bl:=by
  rw[cJ.mpr λ_ _=>rfl,bV,dB,ee];show _=T.map λ_=>A.bl true;rw[dB]
 rw[Y]at U;have N:iI [none] (jq<|gk 0) (gW 0) iL (eFn iG<|gn (gk 0) gy) [.ref n] S=.ok (.ref S1.length) (S1++[.lst<|(T.map λ_=>true).map A.bl]):=by
  unfold iI;rw[jM (S1:=S) (by dsimp[gT,bools]) h.top,Am.R.iV,aH,len];show Am.R.h_ (iU (g8 n T.length) _ _ _ T.length 0 [.unb] S) _=_;rw[U,Am.R.gY,iz<|by simp;lia]
 obtain⟨S2,G⟩:∃S2,S2=S1++[O.lst<|(T.map λ_=>true).map A.bl]:=⟨_,rfl⟩;have J:kX S S2:=by rw[G];exact g2.lay
 have h2:=h.nB J;have V:=all_true (S:=S1) T;rw[<- G]at N V;obtain⟨S3,W,g4⟩:=oq (s:=lW 1 (T.length:Int)) (g:=gW 0) (t:=iL) (e:=eFn iR<|gn (gC j5 (gk 1)<|gk 0)<|gn (gC j5 (gk 1)<|gC aSub (gk 0)<|eC<|.int 1) gy)
  (P:=λS1=>kX S2 S1) (T:=λm=>∃y,m=[y,.ref n])
  (λi=>.int<|1+(i:Int)) (λ_=>true) (λ_=>.bl true)
  (λi S1 f k=>aX f) (λS1 k=>rfl)
  (λi τ S1 f ⟨y,e⟩ k=>by
   subst e;have f:i<((T.length:Int)-1).toNat:=f;have L:=h2.nB k;have Z:j9 (rs.map A.ref) (1+(i:Int))=some (.ref<|rs.getD (i+1) 0):=jS (k:=i+1) () (by rw[aS,d (i+1) ()];rfl);have t2:j9 (rs.map A.ref) (1+(i:Int)-1)=some (.ref<|rs.getD i 0):=jS (k:=i) () (by rw[aS,d i ()];rfl);have ft:Sy.Fits (T.getD (i+1) []) (T.getD i []):=AN ht () (by rw[jU<|show i+1<T.length by lia];rfl);obtain⟨S4,e4,k4⟩:=Ga (L.rows.get<|d i ()).2 (L.rows.get<|d (i+1) ()).2 (by have:=hr i;lia) ft;exact⟨[.int<|1+(i:Int),.ref n],S1,S1,by dsimp[gT,bools],by dsimp[gT,bools],⟨_,rfl⟩,(λz=>by cases z),λ_=>⟨S4,by dsimp[gT,bools,L.top,Z,t2,e4],k.trans k4⟩⟩)
  ((T.length:Int)-1).toNat 0 [.unb,.ref n] S2 (by show _+0=((T.length:Int)-1).toNat;lia) ⟨_,rfl⟩ Kp.refl
 have K:((List.range' 0 ((T.length:Int)-1).toNat).filter λ_=>true).map (λ_=>A.bl true)=((List.range ((T.length:Int)-1).toNat).map λ_=>true).map A.bl:=by
  rw[cJ.mpr λ_ _=>rfl,bV,dB,ee];show _=(List.range _).map λ_=>A.bl true;rw[dB,fO]
 rw[K]at W;have M:iI [none,some 0] (qP (eC<|.int 1)<|gI (f1 jd)<|gn (gk 0) gy) (gW 0) iL (eFn iR<|gn (gC j5 (gk 1)<|gk 0)<|gn (gC j5 (gk 1)<|gC aSub (gk 0)<|eC<|.int 1) gy) [.ref n] S2=.ok (.ref S3.length) (S3++[.lst<|((List.range ((T.length:Int)-1).toNat).map λ_=>true).map A.bl]):=by
  unfold iI;rw[vL (S1:=S2) (S2:=S2) (i:=1) (j:=(T.length:Int)) (by dsimp[gT,bools]) (by dsimp[gT,bools,h2.top,aH,len]) (iZ ⋯ ⋯)<|iZ () (),Am.R.iV];show Am.R.h_ (iU (lW 1 (T.length:Int)) _ _ _ ((T.length:Int)-1).toNat 0 [.unb,.ref n] S2) _=_;rw[W,Am.R.gY,iz<|by simp;lia]
 unfold jR pB oW;dsimp[gT,Lq,bools,kT,Nat.reduceAdd,Nat.reduceSub,h.top,fh,show qY .lst "list" = some true from rfl,cF,N,V,M,all_true];exact⟨_,rfl,(J.trans g4).lay⟩
end K58
namespace K58
open PySem L2 Am
theorem G_{r:Nat}{R:ag}(h:gm S r=some (R.map .int)):∀(k t:Nat) (x1:A),k+t=R.length->∃x1',j8 (g8 r R.length) (gW 1) iL (gk 1) k t [a0,x1] S=.ok ((R.drop t).map .int,[a0,x1']) S
 | 0,t,x1,e=>by
  refine⟨x1,?_⟩;have hf:(g8 r R.length).fin S=true:=by
   show(match gm S r with
    | some ys=>decide (ys.length<=R.length)
    | none=>false)=true
   rw[h];simp
  unfold j8;rw[aX hf,cL ()];rfl
 | k+1,t,x1,e=>by
  have d:t<R.length:=()
  obtain⟨x1',e1⟩:=G_ (a0:=a0) h k (t+1) (.int R[t]) ();refine⟨x1',?_⟩;have hg:(g8 r R.length).get t S=some (.int R[t]):=by
   show(gm S r).bind _=_;rw[h,bx,aS,aF d];rfl
  unfold j8;dsimp[gT,bools,hg,e1];rw[cX d];rfl
theorem AU{n:Nat}{T:List<|ag}(h:Tab S n rs T):∀(k t:Nat) (x0 x1:A),k+t=T.length->jx (g8 n T.length) (gW 0) iL (jq<|gk 0) (gW 1) iL (gk 1) k t [x0,x1] S=.ok ((T.drop t).flatten.map .int) S
 | 0,t,x0,x1,e=>by
  have hf:(g8 n T.length).fin S=true:=by
   show(match gm S n with
    | some ys=>decide (ys.length<=T.length)
    | none=>false)=true
   rw[h.top];simp[h.len]
  unfold jx;rw[aX hf,cL ()];rfl
 | k+1,t,x0,x1,e=>by
  have j:t<T.length:=()
  have m:=h.len;have g:t<rs.length:=()
  have d:=(h.rows.get (i:=t) (r:=rs[t])<|aF g).2;have hg:(g8 n T.length).get t S=some (.ref rs[t]):=by
   show(gm S n).bind _=_;rw[h.top,bx,aS,aF g];rfl
  obtain⟨f,e1⟩:=G_ (a0:=.ref rs[t]) d (T.getD t []).length 0 x1 rfl;have e2:=AU h k (t+1) (.ref rs[t]) f ();have hs:jq (gk 0) [.ref rs[t],x1] S=.ok (g8 rs[t] ((T.getD t []).map A.int).length) S:=jM (by dsimp[gT,bools]) d;rw[aH]at hs;unfold jx;dsimp[gT,bools,hg,hs];show R.h_ (j8 (g8 rs[t] (T.getD t []).length) (gW 1) iL (gk 1) (T.getD t []).length 0 [.ref rs[t],x1] S) _=_;rw[e1,R.gY];show R.h_ (jx (g8 n T.length) (gW 0) iL (jq<|gk 0) (gW 1) iL (gk 1) k (t+1) [.ref rs[t],f] S) _=_;rw[e2,R.gY,cT,jU j,bE,bF]
def Cn{N:Nat}{l:ag}(h:l.Perm<|iw 1<|(N:Int)+1):sortI l=iw 1 ((N:Int)+1):=
 ((sortI_perm l).trans h).eq_of_pairwise (λ_ _ _ _ a b=>gb a b) (qo l) (by
  unfold iw;rw[eB];exact List.pairwise_lt_range.imp<|by intro a b h;lia)
def Gj{n N:Nat}{P Q:List<|ag}(h:Tab S n rs P)(h':Tab S m qs Q)(tp:Sy.iP P)(tq:Sy.iP Q)(bp:wG P)(bq:wG Q)(hs:P.map List.length=Q.map List.length)(hN:N<=40)(hp:Q.flatten.Perm<|iw 1<|(N:Int)+1)
  (l1:P.length<=1000) (l2:Q.length<=1000) (r1:∀i,(P.getD i []).length<64) (r2:∀i,(Q.getD i []).length<64):∃S',iB [.ref n,.ref m] S=.ok (.bl true) S'/\kX S S':=by
 obtain⟨S1,e1,J⟩:=v9 h tp bp l1 r1;have h1:=h.nB J;have F:=h'.nB J;obtain⟨S2,e2,L⟩:=v9 F tq bq l2 r2;have h2:=h1.nB L;have K:=F.nB L;have s3:lC [.ref n] S2=.ok (.ref S2.length) (S2++[.lst<|(P.map λr=>(r.length:Int)).map .int]):=by
  unfold lC rD rE;dsimp[gT,bools,kT,Nat.reduceAdd,Nat.reduceSub,tF (cap:=[]) (src:=jq<|gk 0) (τ:=[.ref n]) h2 (jM (by dsimp[gT,bools]) h2.top) ()]
 obtain⟨S3,d⟩:∃S3,S3=S2++[O.lst<|(P.map λr=>(r.length:Int)).map .int]:=⟨_,rfl⟩;have k3:kX S2 S3:=by rw[d];exact Kp.refl.lay
 have x3:gm S3 S2.length=some ((P.map λr=>(r.length:Int)).map .int):=by rw[d];exact gJ
 rw[<- d]at s3;have t:=K.nB k3;have M:lC [.ref m] S3=.ok (.ref S3.length) (S3++[.lst<|(Q.map λr=>(r.length:Int)).map .int]):=by
  unfold lC rD rE;dsimp[gT,bools,kT,Nat.reduceAdd,Nat.reduceSub,tF (cap:=[]) (src:=jq<|gk 0) (τ:=[.ref m]) t (jM (by dsimp[gT,bools]) t.top) ()]
 obtain⟨S4,B⟩:∃S4,S4=S3++[O.lst<|(Q.map λr=>(r.length:Int)).map .int]:=⟨_,rfl⟩;have G:kX S3 S4:=by rw[B];exact Kp.refl.lay
 have x4:gm S4 S3.length=some ((Q.map λr=>(r.length:Int)).map .int):=by rw[B];exact gJ
 rw[<- B]at M;have g:=t.nB G;have es:(P.map λr=>(r.length:Int))=Q.map λr=>(r.length:Int):=by
  have:=b_ (List.map λk:Nat=>(k:Int)) hs;rw[bV,bV]at this;exact this
 have Z:=pH<|xQ (G.lst _ _ (λz=>z) x3) x4;rw[a_ es,cF]at Z;have fl:Q.flatten.length=N:=by rw[hp.length_eq,kF];lia
 have U:uM [none,none] (jq<|gk 1) (gW 0) iL (jq<|gk 0) (gW 1) iL (gk 1) [.ref n,.ref m,.unb] S4=.ok (.ref S4.length) (S4++[.lst<|Q.flatten.map .int]):=by
  have e:=AU g Q.length 0 .unb .unb rfl;rw[cT]at e;unfold uM;rw[jM (S1:=S4) (by dsimp[gT,bools]) g.top,R.iV,aH,g.len];show R.h_ (jx (g8 m Q.length) _ _ _ _ _ _ Q.length 0 [.unb,.unb] S4) _=_;rw[e,R.gY,iz<|by rw[aH];lia]
 obtain⟨S5,j⟩:∃S5,S5=S4++[O.lst<|Q.flatten.map .int]:=⟨_,rfl⟩;have k5:kX S4 S5:=by rw[j];exact Kp.refl.lay
 have x5:gm S5 S4.length=some (Q.flatten.map .int):=by rw[j];exact gJ
 rw[<- j]at U;have Y:sP (.ref S4.length) S5=.ok (.ref S5.length) (S5++[.lst<|(iw 1<|(N:Int)+1).map .int]):=by
  show opt (gm S5 S4.length) _=_;rw[x5,ie,ints_map,ie,jz (),Cn hp]
 obtain⟨C,f⟩:∃C,C=S5++[O.lst<|(iw 1<|(N:Int)+1).map .int]:=⟨_,rfl⟩;have k6:kX S5 C:=by rw[f];exact Kp.refl.lay
 have V:gm C S5.length=some ((iw 1<|(N:Int)+1).map .int):=by rw[f];exact gJ
 rw[<- f]at Y;have rl:(iw 1<|(N:Int)+1).length=N:=by rw[kF];lia
 unfold iB jk jn;dsimp[gT,Lq,bools,kT,Nat.reduceAdd,Nat.reduceSub,e1,e2,s3,M,Z,cF,U,Y,V,aH,rl,a_<|show(N:Int)<=40 by lia];rw[BU<|Ck (show(-1000000:Int)<=1 by decide) ⋯ (show -1000000<=(N:Int)+1 by lia) () (),R.iV];have x7:gm (C++[O.lst<|(iw 1<|(N:Int)+1).map .int]) S5.length=some ((iw 1<|(N:Int)+1).map .int):=gZ V;have W:=ya<|xQ (a:=S5.length) (b:=C.length) x7 gJ;rw[a_ rfl]at W;rw[W];exact⟨_,rfl,((((((J.trans L).trans k3).trans G).trans k5).trans k6).lay)⟩
end K58
namespace K58
open PySem L2 Am
abbrev oB:Nat->List (ag)->List (Int×A)
 | _,[]=>[]
 | t,q::Q=>(q.map λk=>(k,A.int (t:Int)))++oB (t+1) Q
def Bm{kvs:List<|Int×A}{k:Int}(h:k∉kvs.map (·.1)):jG kvs k=none:=by
 unfold jG;rw[List.find?_eq_none.mpr λx hx=>by simpa using λe=>h<|cu.mpr ⟨x,hx,e⟩];rfl
def Gs{kvs:List<|Int×A}{k:Int}{v:A}(h:k∉kvs.map (·.1)):yk kvs k v=kvs++[(k,v)]:=by
 unfold yk;rw[Bm h];rfl
def E_{S:gu}{n:Nat}(h:n<S.length):nG (S.set n<|.mE kvs) n=some kvs:=qh<|bO h
def DR{S:gu}{n:Nat}(h:n≠m):gm (S.set n o) m=gm S m:=by unfold gm;rw[bM h]
def oH{S:gu}{n:Nat}(h:S[n]?=some o):S.set n o=S:=by
 obtain⟨d,e⟩:=aI.mp h;rw[<- e];exact eO d
theorem Ej{r n a:Nat}{R:ag}(hn:n≠r)(hl:R.length<=1000)(nd:R.Nodup):∀(k t:Nat) (x2:A) (S:gu) (kvs:List<|Int×A),k+t=R.length->gm S r=some (R.map .int)->n<S.length->nG S n=some kvs->kvs.length<=1000+t->(∀x∈R.drop t,x∉kvs.map (·.1)) ->
  ∃x2',qX oG (g8 r R.length) (gW 2) iL (gk 2) (gk 0) n k t [.int (a:Int),.ref r,x2] S=.ok [.int (a:Int),.ref r,x2'] (S.set n<|.mE<|kvs++(R.drop t).map λk=>(k,A.int (a:Int)))
 | 0,t,x2,S,kvs,e,h,hS,hk,_,_=>by
  have hf:(g8 r R.length).fin S=true:=by
   show(match gm S r with
    | some ys=>decide (ys.length<=R.length)
    | none=>false)=true
   rw[h];simp
  refine⟨x2,?_⟩;unfold qX;rw[aX hf,cL (),cK,bZ];congr 1;exact(oH<|lB hk).symm
 | k+1,t,x2,S,kvs,e,h,hS,hk,hz,hd=>by
  have g:t<R.length:=()
  have f:R.drop t=R[t]::R.drop (t+1):=cX g;have j:R[t]∉kvs.map (·.1):=hd _ (by rw[f];exact aY ..);have d:(R.drop t).Nodup:=nd.sublist<|List.drop_sublist _ _;rw[f]at d;have hg:(g8 r R.length).get t S=some (.int R[t]):=by
   show(gm S r).bind _=_;rw[h,bx,aS,aF g];rfl
  have st:oG (.ref n) (.int R[t]) (.int (a:Int)) S=.ok Unit.unit (S.set n<|.mE<|kvs++[(R[t],.int (a:Int))]):=by
   show opt (nG S n) _=_;rw[hk,ie,jz<|show kvs.length<sizeLine by rw[cG];lia,Gs j]
  obtain⟨x2',e1⟩:=Ej (a:=a) hn hl nd k (t+1) (.int R[t]) (S.set n<|.mE<|kvs++[(R[t],.int (a:Int))]) (kvs++[(R[t],.int (a:Int))]) () (by rw[DR hn];exact h) (by rw[bA];exact hS) (E_ hS) (by rw[aM];show kvs.length+1<=_;lia) (λx hx=>by
   rw[bF,bC,not_or];refine⟨hd x<|by rw[f];exact aK _ hx,λz=>?_⟩;have:x=R[t]:=by simpa using z
   rw[this]at hx;exact(bD.mp d).1 hx)
  refine⟨x2',?_⟩;unfold qX;dsimp[gT,bools,hg,st,e1,f6];rw[f,bH,bK];rfl
end K58
namespace K58
open PySem L2 Am
theorem yK{n:Nat}{Q:List<|ag}(nd:Q.flatten.Nodup)(hl:Q.flatten.length<=1000):∀(k t:Nat) (x0 x1 x2:A) (S:gu) (kvs:List<|Int×A),k+t=Q.length->Tab S m qs Q->n∉m::qs->n<S.length->nG S n=some kvs->kvs.length+(Q.drop t).flatten.length<=1000->(∀x∈(Q.drop t).flatten,x∉kvs.map (·.1)) ->
  ∃τ',nj oG (qR m Q.length) (DQ 2<|uD (gW 0)<|uD (gW 1) Cs) iL (jq<|gk 1) (gW 2) iL (gk 2) (gk 0) n k t [x0,x1,x2] S=.ok τ' (S.set n<|.mE<|kvs++oB t (Q.drop t))
 | 0,t,x0,x1,x2,S,kvs,e,h,hn,hS,hk,_,_=>by
  have hf:(qR m Q.length).fin S=true:=by
   show(match gm S m with
    | some ys=>decide (ys.length=Q.length)
    | none=>false)=true
   rw[h.top];simp[h.len]
  refine⟨[x0,x1,x2],?_⟩;unfold nj;rw[aX hf,cL ()];show R.ok _ S=.ok _ (S.set n<|.mE<|kvs++[]);rw[bZ,oH<|lB hk]
 | k+1,t,x0,x1,x2,S,kvs,e,h,hn,hS,hk,hz,hd=>by
  have F:t<Q.length:=()
  have len:=h.len;have d:qs[t]?=some (qs.getD t 0):=by rw[aG,aF ()];rfl
  have f:=(h.rows.get d).2;have j:=jU F;rw[j,bE]at hz hd;rw[aM]at hz;have B:(Q.drop t).flatten.Nodup:=by
   have:Q.flatten=(Q.take t).flatten++(Q.drop t).flatten:=by rw[<- fC,eU]
   rw[this]at nd;exact(cy.mp nd).2.1
  rw[j,bE,cy]at B;have hg:(qR m Q.length).get t S=some (.tup [.int (t:Int),.ref<|qs.getD t 0]):=by
   show(gm S m).bind _=_;rw[h.top,bx,aS,d];rfl
  have C:n≠qs.getD t 0:=λz=>hn (aK _<|by rw[z];exact bf d);have hs:jq (gk 1) [.int (t:Int),.ref<|qs.getD t 0,x2] S=.ok (g8 (qs.getD t 0) ((Q.getD t []).map A.int).length) S:=jM (by dsimp[gT,bools]) f;rw[aH]at hs;obtain⟨g,e1⟩:=Ej (a:=t) C () B.1 (Q.getD t []).length 0 x2 S kvs () f hS hk () (λx hx=>hd x<|dH _<|by rwa [cT]at hx);rw[cT]at e1;have kp:Kp (·=n) S (S.set n<|.mE<|kvs++(Q.getD t []).map λk=>(k,A.int (t:Int))):=Kp.refl.KW<|.inl rfl;have h2:Tab (S.set n<|.mE<|kvs++(Q.getD t []).map λk=>(k,A.int (t:Int))) m qs Q:=h.kp kp λr G z=>hn (by rw[<- z];exact G);obtain⟨τ',e2⟩:=yK nd hl k (t+1) (.int (t:Int)) (.ref<|qs.getD t 0) g _ _ () h2 hn (by rw[bA];exact hS) (E_ hS) (by rw[aM,aH];lia) (λx hx=>by
   rw[bF,bC,not_or];refine⟨hd x<|aP _ hx,λz=>?_⟩;rw[bV]at z;obtain⟨y,hy,rfl⟩:=cu.mp z;exact B.2.2 y hy y hx rfl)
  refine⟨τ',?_⟩;rw[f6]at e2;unfold nj;dsimp[gT,bools,hg,jz<|show([_,_]:ae).length=2 from rfl,hs];show R.h_ (qX oG (g8 (qs.getD t 0) (Q.getD t []).length) (gW 2) iL (gk 2) (gk 0) n (Q.getD t []).length 0 [.int (t:Int),.ref<|qs.getD t 0,x2] S) _=_;rw[e1,R.gY];show nj oG (qR m Q.length) _ _ _ _ _ _ _ n k (t+1) [.int (t:Int),.ref<|qs.getD t 0,g] _=_;rw[e2,j];show _=R.ok τ' (S.set n<|.mE<|kvs++((Q.getD t []).map (λk=>(k,A.int (t:Int)))++oB (t+1) (Q.drop<|t+1)));rw[bK]
theorem yX{t:Nat}{k:Int}:∀{q:ag},k∈q->(q.map λk=>(k,A.int (t:Int))).find? (λkv=>decide<|kv.1=k)=some (k,.int (t:Int))
 | [],c=>nomatch c
 | x::q,c=>by
  rw[bH,cA];by_cases e:x=k
  ·subst e;simp
  ·rw[show decide ((x,A.int (t:Int)).1=k)=false from bz e];exact yX (by
    rcases br.mp c with z|z
    ·exact absurd z.symm e
    ·exact z)
theorem Az:∀{Q:List<|ag}{t:Nat}{k:Int},(∃q∈Q,k∈q)->jG (oB t Q) k=some (.int ((t+Sy.wh Q k:Nat):Int))
 | [],_,_,h=>by obtain⟨q,g,_⟩:=h;cases g
 | q::Q,t,k,h=>by
  rw[Sy.kh];show jG ((q.map λk=>(k,A.int (t:Int)))++oB (t+1) Q) k=_;unfold jG;rw[List.find?_append];by_cases c:k∈q
  ·rw[aX c];rw[yX c];rfl
  ·rw[aZ c];have:(q.map λk=>(k,A.int (t:Int))).find? (λj=>decide<|j.1=k)=none:=List.find?_eq_none.mpr λx hx=>by
    obtain⟨y,hy,rfl⟩:=cu.mp hx;simpa using λe:y=k=>c<|by rw[<- e];exact hy
   rw[this];have h':∃p∈Q,k∈p:=by
    obtain⟨p,hp,d⟩:=h
    rcases br.mp hp with e|e
    ·rw[e]at d;exact absurd d c
    ·exact⟨p,e,d⟩
   have f:=Az (t:=t+1) h';unfold jG at f;show((oB (t+1) Q).find? _).map _=_;rw[f];congr 3
   lia
theorem Fj:∀(Q:List<|ag) (t:Nat),(oB t Q).length=Q.flatten.length
 | [],_=>rfl
 | q::Q,t=>by
  show((q.map λk=>(k,A.int (t:Int)))++oB (t+1) Q).length=_;rw[aM,aH,Fj Q<|t+1,bE,aM]
end K58
namespace Sy
open Tb
theorem wB:∀{Q:List<|ag}{i:Nat}{m:Int},iP Q->(∀q∈Q,∀k∈q,k<m)->i<=Q.length->(∀j,((add Q i m).getD (j+1) []).length<=((add Q i m).getD j []).length)->iP (add Q i m)
 | [],i,m,_,_,_,_=>⟨(by simp),cI _ _,(λu d=>nomatch d),trivial⟩
 | q::Q,0,m,⟨h1,h2,h3,h4⟩,hm,_,_=>by
  refine⟨by simp,xq h2 λy hy=>Int.le_of_lt<|hm q (aY ..) y hy,λu d=>?_,h4⟩;have f:=h3 u d;refine⟨by rw[aM];have:=f.1;lia,λj x y hx hy=>f.2 j x y ?_ hy⟩;have G:=(aI.mp hy).1;rw[aO (by have:=f.1;lia)]at hx;exact hx
 | q::Q,i+1,m,⟨h1,h2,h3,h4⟩,hm,hi,hl=>by
  have B:=wB (Q:=Q) (i:=i) (m:=m) h4 (λp hp=>hm p<|aK _ hp) (by simpa using hi) λj=>by
   have:=hl<|j+1;exact this
  have C:=hm q<|aY ..;have t:((add Q i m).getD 0 []).length<=q.length:=hl 0;refine⟨h1,h2,λu d=>?_,B⟩;have lt:∀(j:Nat) (x:Int),q[j]?=some x->x<m:=λj x hx=>C x (bf hx)
  cases Q with
  | nil=>
   have d:some [m]=some u:=d
   cases d
   refine⟨bX.mpr h1,λj x y hx hy=>?_⟩;have:=(aI.mp hy).1;have F:j=0:=by simpa using this
   subst F
   cases hy
   exact lt 0 x hx
  | cons v V=>
   have f:=h3 v rfl
   cases i with
   | zero=>
    have d:some (v++[m])=some u:=d
    cases d
    refine⟨t,λj x y hx hy=>?_⟩
    rcases c8 j v.length with z|z
    ·rw[aO z]at hy;exact f.2 j x y hx hy
    ·have g:=(aI.mp hy).1;rw[aM]at g;have:j=v.length:=by simp at g;lia
     subst this;rw[bT<|aN _,bY]at hy
     cases hy
     exact lt _ x hx
   | succ i=>
    have d:some v=some u:=d
    cases d
    exact f
theorem uf:∀{T:List<|ag},iP T->∀j,(T.getD (j+1) []).length<=(T.getD j []).length
 | [],_,j=>aN _
 | [r],_,j=>cN _
 | r::s::T,h,0=>(h.2.2.1 s rfl).1
 | r::s::T,h,j+1=>uf (T:=s::T) h.2.2.2 j
theorem qQ(xs:ag):∀n,n<=xs.length->iP (tabs xs n).2
 | 0,_=>trivial
 | n+1,h=>by
  have e:(tabs xs<|n+1).2=add (tabs xs n).2 (row (tabs xs n).1<|xs.getD n 0) ((n:Int)+1):=rfl;have f:=jy xs<|n+1;have t:=uf<|qE xs h;have d:∀j,((tabs xs<|n+1).2.getD j []).length=((tabs xs<|n+1).1.getD j []).length:=λj=>by
   have:=b_ (λl:am=>l[j]?) f;dsimp[aS]at this;rw[aG,aG]
   cases h1:(tabs xs<|n+1).2[j]?<;>cases h2:(tabs xs<|n+1).1[j]?<;>rw[h1,h2]at this
   ·cases this
   ·cases this
   ·exact aR this
  rw[e]at d ⊢;refine wB (qQ xs n ()) (λq g k m=>?_) ?_ λj=>?_
  ·have:=(vt xs n).1 q g k m;lia
  ·have l:=b_ List.length<|jy xs n;rw[aH,aH]at l;rw[l];exact(qq _ _).2
  ·rw[d,d];exact t j
end Sy
namespace Sy
open Tb
inductive Chain (ro:Nat->Nat):Nat->List (ag)->Prop
 | nil:Chain ro 0 []
 | step {N:Nat} {P P':List<|ag}:iP P->m_ P (ro<|N+1)->(jf P<|ro<|N+1).2=pad P' P.length->P'.length<=P.length->Chain ro N P'->Chain ro (N+1) P
theorem xm(ro:Nat->Nat):∀(N:Nat) {P Q:List<|ag},iP P->iP Q->P.map List.length=Q.map List.length->Q.flatten.Perm (L2.iw 1<|(N:Int)+1)->(∀k:Nat,k<N->ro (k+1)=wh Q ((k:Int)+1))->Chain ro N P
 | 0,P,Q,hP,hQ,hs,hp,_=>by
  have M:Q=[]:=by
   cases Q with
   | nil=>rfl
   | cons q Q=>
    have:=hp.length_eq;have:=bX.mpr hQ.1;rw[bE,aM]at *
    have z:(L2.iw 1<|((0:Nat):Int)+1).length=0:=rfl
    lia
  subst M;have Z:P=[]:=List.map_eq_nil_iff.mp hs;subst Z;exact .nil
 | N+1,P,Q,hP,hQ,hs,hp,hr=>by
  have f:∀k:Int,(∃q∈Q,k∈q) ↔ 1<=k/\k<((N+1:Nat):Int)+1:=λk=>by
   rw[<- L2.kI,<- hp.mem_iff,cR]
  obtain⟨t,C,K,L,d,W,_⟩:=vE (m:=(N:Int)+1) hQ (λq hq k U=>by have:=(f k).mp ⟨q,hq,U⟩;lia)<|(f _).mpr ⟨(),()⟩;have ra:=hr N<|bw _;rw[<- ra]at C L d;have J:m_ P (ro<|N+1):=by
   have l:∀i:Nat,(P[i]?).map List.length=(Q[i]?).map List.length:=λi=>by rw[<- aS,<- aS,hs]
   have B:P.length=Q.length:=by have:=b_ List.length hs;simpa using this
   refine⟨by rw[B];exact d.1,λu hu=>?_⟩;have e1:=l<|ro (N+1)+1;rw[hu]at e1;obtain⟨w,hw,e⟩:=bg.mp e1.symm;have k:=d.2 w hw;have e2:=l<|ro<|N+1;rw[aF<|by rw[B];exact d.1,aF d.1]at e2;rw[aG,aF d.1]at k;rw[aG,aF<|by rw[B];exact d.1];have e2:=aR e2;dsimp[di]at k ⊢
   lia
  obtain⟨F,p1,p2,V,G,Y,_⟩:=rQ hP J;have O:F.map List.length=t.map List.length:=by
   refine se (a:=ro<|N+1) (mG p1) (mG K) ?_ (by rw[aH];exact L) ?_
   ·rw[aH];have:=(qq F (jf P<|ro<|N+1).1).2;rw[G]at this;exact this
   ·rw[<- ou t (ro<|N+1) ((N:Int)+1),<- C,<- hs];have:=jc F (jf P<|ro<|N+1).1;rw[V,G]at this;exact this.symm
  have g:t.flatten.Perm (L2.iw 1<|(N:Int)+1):=by
   have e:L2.iw 1 (((N+1:Nat):Int)+1)=L2.iw 1 ((N:Int)+1)++[(N:Int)+1]:=by
    unfold L2.iw;rw[show(((N+1:Nat):Int)+1-1).toNat=N+1 by lia,show((N:Int)+1-1).toNat=N by lia,d9,bF];show _++[1+(N:Int)]=_;rw[f7 1]
   rw[e]at hp;have:=(W.symm.trans hp).trans<|dF (l₁:=L2.iw 1<|(N:Int)+1) (l₂:=[(N:Int)+1]);exact(List.perm_cons _).mp this
  exact .step hP J p2 Y (xm ro N p1 K O g λj hj=>by
   rw[hr j (),C,zQ ()];have:((j:Int)+1)∈L2.iw 1 ((N:Int)+1):=L2.kI.mpr ⟨(),()⟩;rw[<- g.mem_iff,cR]at this;exact this)
end Sy
namespace K58
open PySem L2 Am
def Ja{n:Nat}{k:Int}:BN (.ref n) (.int k) S=opt (nG S n) λkvs=>opt (jG kvs k) λv=>.ok v S:=rfl
theorem zy:∀(U:List<|ag) (a i:Nat),((Sy.jf U a).2.getD i []).length<=(U.getD i []).length
 | [],_,_=>aN _
 | r::T,0,0=>by show r.dropLast.length<=r.length;rw[dI];lia
 | r::T,0,i+1=>aN _
 | r::T,a+1,0=>by show(r.set _ _).length<=r.length;rw[bA];exact aN _
 | r::T,a+1,i+1=>zy T a i
def ur{S:gu}{n:Nat}{T:List<|ag}(h:Tab S n rs T)(hl:T.length<=1000):∃(qs:am) (m:Nat) (S':gu),nQ [.ref n] S=.ok (.ref m) S'/\Tab S' m qs T/\kX S S'/\∀r∈m::qs,S.length<=r:=by
 obtain⟨qs,m,S1,e1,h1,f,d⟩:=tN (cap:=[]) (τ:=[.ref n]) (src:=jq<|gk 0) h (jM (by dsimp[gT,bools]) h.top) ();unfold nQ sN sj;dsimp[gT,bools,kT,Nat.reduceAdd,Nat.reduceSub,e1];exact⟨qs,m,S1,rfl,h1,f,d⟩
def v_{S:gu}{n:Nat}{T:List<|ag}(h:Tab S n rs T)(hl:T.length<=1000):∃(qs:am) (m:Nat) (S':gu),ku [.ref n] S=.ok (.ref m) S'/\Tab S' m qs T/\kX S S'/\∀r∈m::qs,S.length<=r:=ur h hl
abbrev qa (P Q:List<|ag)(N:Nat):ag:=Sy.qO (λk=>Sy.wh Q (k:Int)) N P
structure Pr (P Q:List (ag))(N:Nat):Prop where
 tp:Sy.iP P
 tq:Sy.iP Q
 bp:wG P
 sh:P.map List.length=Q.map List.length
 le:N<=40
 pm:Q.flatten.Perm<|iw 1<|(N:Int)+1
def Pr.fl{P Q:List<|ag}{N:Nat}(h:Pr P Q N):Q.flatten.length=N:=by rw[h.pm.length_eq,kF];lia
def pY(T:List<|ag):T.flatten.length=(T.map List.length).sum:=List.length_flatten
def Pr.small{P Q:List<|ag}{N:Nat}(h:Pr P Q N):P.length<=40/\Q.length<=40/\(∀i,(P.getD i []).length<=40)/\∀i,(Q.getD i []).length<=40:=by
 have s:=h.fl;rw[pY]at s;have l:=h.le;have a:=Tb.oM<|Sy.mG h.tq;have b:=Tb.ow<|Q.map List.length;have c:=b_ List.length h.sh;rw[aH]at a;rw[aH,aH]at c;refine⟨(),(),λi=>?_,λi=>?_⟩
 ·rw[<- Tb.jY,h.sh];have:=b i;lia
 ·rw[<- Tb.jY];have:=b i;lia
def Pr.bq{P:List<|ag}{N:Nat}(h:Pr P Q N):wG Q:=λr d x hx=>by
 have:x∈iw 1 ((N:Int)+1):=h.pm.mem_iff.mp<|cR.mpr ⟨r,d,hx⟩;have:=kI.mp this;have:=h.le
 lia
def sH{S:gu}{n N:Nat}{P:List<|ag}(h:Tab S n rs P)(h':Tab S m qs Q)(pr:Pr P Q N):∃(L:Nat) (S':gu),jP [.ref n,.ref m] S=.ok (.ref L) S'/\gm S' L=some ((qa P Q N).map .int)/\kX S S'/\S.length<=L:=by
 obtain⟨z1,z2,z3,z4⟩:=pr.small;obtain⟨S1,e1,k1⟩:=Gj h h' pr.tp pr.tq pr.bp pr.bq pr.sh pr.le pr.pm () () (λi=>by have:=z3 i;lia) (λi=>by have:=z4 i;lia);have h1:=h.nB k1;obtain⟨cs,c,S2,e2,h2,k2,fr2⟩:=ur h1 ();have Y:=k1.trans k2;have G:=h'.nB Y;have nd:Q.flatten.Nodup:=pr.pm.nodup_iff.mpr<|yf 1 _;have fl:=pr.fl;have le:=pr.le;obtain⟨τd,e3⟩:=yK (n:=S2.length) (qs:=qs) (m:=m) nd () Q.length 0 .unb .unb .unb (S2++[.mE []]) [] () (G.nB Kp.refl.lay) (λz=>by have:=G.lt _ z;lia) (by simp) (qh<|by simp) (by rw[cT];show 0+_<=_;lia) λx _ z=>nomatch z;have sd:(S2++[O.mE []]).set S2.length (.mE<|[]++oB 0 (Q.drop 0))=S2++[.mE<|oB 0 Q]:=by
  rw[f_,cT,List.set_append_right _ _<|aN _,bY];rfl
 rw[sd]at e3;have ed:Fd (.mE []) oG [none,none,none] (DZ<|gk 1) (DQ 2<|uD (gW 0)<|uD (gW 1) Cs) iL (jq<|gk 1) (gW 2) iL (gk 2) (gk 0) [.ref n,.ref m,.ref c,.unb,.unb,.unb] S2=.ok (.ref S2.length) (S2++[.mE<|oB 0 Q]):=by
  unfold Fd;rw[F2 (S1:=S2) (n:=m) (by dsimp[gT,bools]) G.top,R.iV,aH,G.len];show R.h_ (nj oG (qR m Q.length) _ _ _ _ _ _ _ S2.length Q.length 0 [.unb,.unb,.unb]<|S2++[.mE []]) _=_;rw[e3,R.gY]
 obtain⟨S3,C⟩:∃S3,S3=S2++[O.mE<|oB 0 Q]:=⟨_,rfl⟩;have W:kX S2 S3:=by rw[C];exact Kp.refl.lay
 have d3:nG S3 S2.length=some (oB 0 Q):=by rw[C];exact qh (by simp)
 have l3:S3.length=S2.length+1:=by rw[C];simp
 rw[<- C]at ed;have h3:=h2.nB W;have M:=Y.trans W;have lc:∀r∈c::cs,r<S2.length:=h2.lt;have K:=Sy.xm (λk=>Sy.wh Q (k:Int)) N pr.tp pr.tq pr.sh pr.pm (λk _=>by show Sy.wh Q ((k+1:Nat):Int)=_;congr 1);have U:nG (S3++[O.lst []]) S2.length=some (oB 0 Q):=qh (by rw[aO ()];exact lB d3);have ln:=M.len;unfold jP pM pF;dsimp[gT,bools,kT,Nat.reduceAdd,Nat.reduceSub,e1,cF,e2,ed];refine Dl (lo:=(N:Int)) (hi:=0) (S1:=S3++[.lst []]) (show qg _ _=_ from wF (S1:=S3++[.lst []]) (S2:=S3++[.lst []]) (by dsimp[gT,bools,GC,U,Fj,fl]) (by dsimp[gT,bools]) (by dsimp[gT,bools]) (iZ () ())<|iZ ⋯ ⋯)
  (λi τ S'=>∃(a5:A) (f:List<|ag) (d:ag),τ=[.ref n,.ref m,.ref c,.ref S2.length,.ref S3.length,a5]/\Tab S' c cs (Sy.pad f P.length)/\f.length<=P.length/\(∀j,((Sy.pad f P.length).getD j []).length<=40)/\Sy.Chain (λk=>Sy.wh Q (k:Int)) (N-i) f/\gm S' S3.length=some (d.map .int)/\d.length=i/\nG S' S2.length=some (oB 0 Q)/\kX S S'/\Sy.qO (λk=>Sy.wh Q (k:Int)) (N-i) (Sy.pad f P.length)++d.reverse=qa P Q N)
  (λr=>∃(L:Nat) (S':gu),RS.end (RS.seq r _)=.ok (.ref L) S'/\gm S' L=some ((qa P Q N).map .int)/\kX S S'/\S.length<=L)
  ⟨_,P,[],rfl,?_,aN _,?_,K,gJ,rfl,U,M.lay,?_⟩ ?_ ?_
 ·rw[show Sy.pad P P.length=P by unfold Sy.pad;rw[bY,dW,bZ]];exact h3.nB Kp.refl.lay
 ·rw[show Sy.pad P P.length=P by unfold Sy.pad;rw[bY,dW,bZ]];exact z3
 ·rw[show Sy.pad P P.length=P by unfold Sy.pad;rw[bY,dW,bZ]];exact bZ _
 ·rintro i τ S4 hi ⟨a5,f,d,rfl,t4,p4,r4,J,F,tl4,d4,k4,B⟩;left;obtain⟨j,hj⟩:∃j,N-i=j+1:=⟨N-i-1,()⟩;have ji:N-(i+1)=j:=()
  rw[hj]at J B;generalize hk:j+1=k at J
  cases J with
  | nil=>lia
  | @step g _ Z ta co tk pl ch=>
  obtain rfl:g=j:=()
  have lk:jG (oB 0 Q) ((N:Int)-(i:Int))=some (.int ((Sy.wh Q ((g+1:Nat):Int):Nat):Int)):=by
   rw[show(N:Int)-(i:Int)=((g+1:Nat):Int)by lia];have:((g+1:Nat):Int)∈Q.flatten:=pr.pm.mem_iff.mpr<|kI.mpr ⟨(),()⟩;have:=Az (t:=0)<|cR.mp this;rw[Nat.zero_add]at this;exact this
  obtain⟨S5,e5,t5,k5⟩:=F9 t4 (Iz ta co p4) (by unfold Sy.pad;rw[aM,cU];lia) (λj=>by have:=r4 j;lia);have nl:S3.length∉cs:=λz=>by have:=lc _<|aK _ z;lia
  have nD:S2.length∉cs:=λz=>by have:=lc _<|aK _ z;lia
  have V:=k5.lst _ _ nl F;have ll:=jN V;have ep:Sy.jf (Sy.pad f P.length) (Sy.wh Q ((g+1:Nat):Int))=((Sy.jf f<|Sy.wh Q ((g+1:Nat):Int)).1,Sy.pad Z P.length):=by
   rw[Sy.qk co.1 p4,tk,Sy.vH pl p4]
  unfold qe;dsimp[gT,bools,Ja,F,d4,lk,e5,V,aH,mz<|show d.length<16777216 by lia];refine⟨_,_,rfl,_,Z,d++[(Sy.jf f<|Sy.wh Q ((g+1:Nat):Int)).1],rfl,?_,(),λj=>?_,by rw[ji];exact ch,?_,by rw[aM,tl4];rfl,?_,(k4.old k5 λr hr _ z=>absurd (fr2 r<|aK _ z) (by have:=k1.len;lia)).set<|.inr (),?_⟩
  ·rw[ep]at t5;exact t5.kp (c:=(·=S3.length)) (Kp.refl.set<|.inl rfl) λr hr z=>by have:=lc r hr;lia
  ·have:=zy (Sy.pad f P.length) (Sy.wh Q ((g+1:Nat):Int)) j;rw[ep]at this;exact b6 this (r4 j)
  ·rw[ep,jC ll,bF];rfl
  ·have:=k5.obj _ _ nD<|lB d4;refine qh ?_;rw[bM ()];exact this
  ·rw[ji,List.reverse_append,<- B];show Sy.qO _ g _++([_]++d.reverse)=(Sy.qO _ g (Sy.jf (Sy.pad f P.length)<|Sy.wh Q ((g+1:Nat):Int)).2++[(Sy.jf (Sy.pad f P.length)<|Sy.wh Q ((g+1:Nat):Int)).1])++d.reverse;rw[ep,bK]
 ·rintro τ S4 ⟨a5,f,d,rfl,t4,p4,r4,J,F,tl4,d4,k4,B⟩;rw[show((N:Int)-0).toNat=N by lia,bY]at B;dsimp[gT,bools,F,<- List.map_reverse];refine⟨_,_,rfl,?_,k4.lay,by have:=k4.len;lia⟩;rw[gJ,<- B];rfl
end K58
namespace K58
open PySem L2 Am
def wk{x:A}:j9 (xs++[x]) (-1)=some x:=by
 have e:uB (xs++[x]).length (-1)=some xs.length:=by
  unfold uB;rw[aM,List.length_singleton];rw[aZ (),aX ()];congr 1
  lia
 unfold j9;rw[e,bx,bT<|aN _,bY];rfl
def yl{S:gu}(h:oz S b):∃(ls:ag) (L:Nat) (S':gu),jo [.ref b] S=.ok (.ref L) S'/\gm S' L=some (ls.map .int)/\ls.length<=5/\(∀k∈ls,1<=k/\k<=7)/\ls.Pairwise (·>=·)/\oz S' b/\Kp (·=b) S S'/\S.length<=L:=by
 have hbS:=h.lt;have nb:S.length≠b:=()
 obtain⟨d,S1,e1,d0,d1,F,V⟩:=digit (m:=7) (h.kp (c:=λ_=>False) (Kp.refl.lay (o:=.lst [])) λz=>z) ⋯ ⋯;obtain⟨c,S2,e2,c0,c1,M,k2⟩:=digit (m:=5) F ⋯ ⋯;have g2:gm S2 S.length=some []:=k2.lst _ _ nb<|V.lst _ _ nb gJ;have G:Kp (·=b) S S2:=(Kp.refl.lay.trans V).trans k2;unfold jo lX lG;dsimp[gT,bools,kT,Nat.reduceAdd,Nat.reduceSub,e1];refine lD (lo:=0) (hi:=1+c) (S1:=S2) (show ni _ _=_ from jB (by dsimp[gT,bools,e2])<|iZ () ())
  (λi τ S3=>∃(ls:ag) (f:Int) (K:A),τ=[.ref b,.ref S.length,.int f,K]/\gm S3 S.length=some (ls.map .int)/\ls.length=i/\1<=f/\f<=7/\(∀k∈ls,f<=k/\k<=7)/\ls.Pairwise (·>=·)/\oz S3 b/\Kp (·=b) S S3)
  (λr=>∃(ls:ag) (L:Nat) (S':gu),RS.end (RS.seq r _)=.ok (.ref L) S'/\gm S' L=some (ls.map .int)/\ls.length<=5/\(∀k∈ls,1<=k/\k<=7)/\ls.Pairwise (·>=·)/\oz S' b/\Kp (·=b) S S'/\S.length<=L)
  ⟨[],_,_,rfl,g2,rfl,(),(),(λ_ z=>by cases z),List.Pairwise.nil,M,G⟩ ?_ ?_
 ·rintro i τ S3 hi ⟨ls,f,K,rfl,t,U,W,m1,B,J,j,N⟩;left;obtain⟨e,S4,e4,f0,f1,O,P⟩:=digit (m:=f) j W ();have Z:=P.lst _ _ nb t;have Y:=jN Z;unfold nq;dsimp[gT,bools,t,e4,Z,aH,mz<|show ls.length<16777216 by lia,jC Y,wk];refine⟨_,_,rfl,ls++[1+e],_,_,rfl,by rw[jC Y,bF];rfl,by rw[aM,U];rfl,(),(),λk C=>?_,?_,?_,(N.trans P).set<|.inr<|aN _⟩
  ·rcases bC.mp C with z|z
   ·have:=B k z;lia
   ·have:=aQ.mp z;lia
  ·refine dO.mpr ⟨J,cI _ _,λx hx y hy=>?_⟩;have:=aQ.mp hy;have:=B x hx
   lia
  ·obtain⟨g,st,e,q⟩:=O;exact⟨g,st,by rw[iA nb];exact e,q⟩
 ·rintro τ S3 ⟨ls,f,K,rfl,t,U,W,m1,B,J,j,N⟩;dsimp[gT,bools];exact⟨ls,_,_,rfl,t,(),(λk C=>by have:=B k C;lia),J,j,N,aN _⟩
end K58
namespace K58
open PySem L2 Am
def Tab.snoc{S:gu}{n R:Nat}{rs:am}{ys:ag}(h:Tab S n rs T)(hR:gm S R=some (ys.map .int))(hn:R∉n::rs):Tab (S.set n<|.lst<|rs.map A.ref++[.ref R]) n (rs++[R]) (T++[ys]):=by
 have d:n∉rs:=(bD.mp h.nd).1;have g:n≠R:=λz=>hn (by rw[z];exact aY ..);refine⟨by rw[jC<|h.lt n<|aY ..,bF];rfl,?_,?_⟩
 ·refine Rows.app (h.rows.mono λr f xs e=>?_) ⟨?_,trivial⟩
  ·rw[iA λz=>d<|by rw[z];exact f];exact e
  ·rw[iA g];exact hR
 ·rw[<- List.cons_append];refine cy.mpr ⟨h.nd,bD.mpr ⟨(λz=>nomatch z),gg⟩,λx hx y hy z=>?_⟩;rw[aQ.mp hy]at z;exact hn<|by rw[<- z];exact hx
theorem tH:∀{T:List<|ag}{r:ag},Sy.iP T->r≠[]->Sy.rX r->(∀u,T.getLast?=some u->Sy.Fits r u)->Sy.iP (T++[r])
 | [],r,_,h1,h2,_=>⟨h1,h2,(λu f=>nomatch f),trivial⟩
 | [q],r,⟨a,b,_,_⟩,h1,h2,h3=>⟨a,b,(λu f=>by cases f;exact h3 q rfl),h1,h2,(λu f=>nomatch f),trivial⟩
 | q::p::T,r,⟨a,b,c,d⟩,h1,h2,h3=>⟨a,b,(λu f=>c u f),tH d h1 h2 λu f=>h3 u<|by rw[List.getLast?_cons_cons];exact f⟩
def yD{T:List<|ag}(h:T.length=i)(hu:T.getLast?=some u):u=T.getD (i-1) []:=by
 rw[cY,h]at hu;rw[aG,hu];rfl
def Cz{n R i:Nat}{T:List<|ag}{ls:ag}{len:Nat}(hb:oz S b)(hL:gm S L=some (ls.map .int))(ht:Tab S n rs T)(hR:gm S R=some [])(nR:R∉n::rs)(nb:R≠b)(nL:R≠L)(bL:L≠b)(bt:b∉n::rs)(hi:T.length=i)(i5:i<=5)(le7:len<=7)(hl:ls[i]?=some (len:Int))(up:0<i->len<=(T.getD (i-1) []).length)(bd:∀r∈T,∀x∈r,1<=x/\x<=100 * (i:Int)) :
  ∃(row:ag) (a5' a6':A) (S':gu),lU lH (gW 5) l7 [.ref b,.ref L,.ref n,.int (i:Int),.ref R,a5,a6] S=.nx [.ref b,.ref L,.ref n,.int (i:Int),.ref R,a5',a6'] S'/\gm S' R=some (row.map .int)/\row.length=len/\Sy.rX row/\(∀x∈row,1<=x/\x<=100 * (i:Int)+28)/\(0<i->∀(j:Nat) (x y:Int),(T.getD (i-1) [])[j]?=some x->row[j]?=some y->x<y)/\oz S' b/\Kp (λr=>r=b\/r=R) S S':=by
 have aL:j9 (ls.map A.int) (i:Int)=some (.int (len:Int)):=rF rfl hl;refine lD (lo:=0) (hi:=(len:Int)) (S1:=S) (show lH _ _=_ from jB (by dsimp[gT,bools,hL,aL])<|iZ () ())
  (λk τ S3=>∃(row:ag) (a5' a6':A),τ=[.ref b,.ref L,.ref n,.int (i:Int),.ref R,a5',a6']/\gm S3 R=some (row.map .int)/\row.length=k/\Sy.rX row/\(∀x∈row,1<=x/\x<=100 * (i:Int)+4 * (k:Int))/\(0<i->∀(j:Nat) (x y:Int),(T.getD (i-1) [])[j]?=some x->row[j]?=some y->x<y)/\oz S3 b/\Kp (λr=>r=b\/r=R) S S3)
  (λq=>∃(row:ag) (a5' a6':A) (S':gu),q=.nx [.ref b,.ref L,.ref n,.int (i:Int),.ref R,a5',a6'] S'/\gm S' R=some (row.map .int)/\row.length=len/\Sy.rX row/\(∀x∈row,1<=x/\x<=100 * (i:Int)+28)/\(0<i->∀(j:Nat) (x y:Int),(T.getD (i-1) [])[j]?=some x->row[j]?=some y->x<y)/\oz S' b/\Kp (λr=>r=b\/r=R) S S')
  ⟨[],_,_,rfl,hR,rfl,List.Pairwise.nil,(λ_ z=>by cases z),(λ_ j x y _ z=>by cases z),hb,Kp.refl⟩ ?_ ?_
 ·rintro k τ S3 hk ⟨row,a5',a6',rfl,G,P,B,K,f3,t,M⟩;left;have hk:k<len:=()
  have Y:Tab S3 n rs T:=ht.kp M λr J z=>by
   rcases z with z|z
   ·exact bt (by rw[<- z];exact J)
   ·exact nR<|by rw[<- z];exact J
  obtain⟨f,q1,q2,q3,q4⟩:∃f:Int,(Ks (g_ (gC mh (gC j5 (gC j5 (gk 2)<|gC aSub (gk 3)<|eC<|.int 1)<|gk 5)<|eC<|.int 1)<|gW 6) kg [.ref b,.ref L,.ref n,.int (i:Int),.ref R,.int<|0+(k:Int),.int 1] (decide<|(0:Int)<(i:Int)) S3=.nx [.ref b,.ref L,.ref n,.int (i:Int),.ref R,.int<|0+(k:Int),.int f] S3)/\1<=f/\f<=100 * (i:Int)+1/\(0<i->∀x,(T.getD (i-1) [])[k]?=some x->x<f):=by
   by_cases c:0<i
   ·have J:rs[i-1]?=some (rs.getD (i-1) 0):=by rw[aG,aF<|by rw[Y.len];lia];rfl
    have u1:=up c;have F:=(Y.rows.get J).2;have V:j9 (rs.map A.ref) ((i:Int)-1)=some (.ref<|rs.getD (i-1) 0):=jS (k:=i-1) () (by rw[aS,J];rfl);have a2:=n9 (r:=T.getD (i-1) []) (i:=0+(k:Int)) (k:=k) () ();have W:(T.getD (i-1) []).getD k 0∈T.getD (i-1) []:=bf (getD_at<|show k<(T.getD (i-1) []).length by lia);have m2:T.getD (i-1) []∈T:=by rw[aG,aF ()];exact b8 _
    have m3:=bd _ m2 _ W;refine⟨(T.getD (i-1) []).getD k 0+1,?_,(),(),λ_ x hx=>?_⟩
    ·dsimp[gT,bools,a_<|show(0:Int)<(i:Int)by lia,Y.top,V,F,a2]
    ·rw[aG (l:=T.getD (i-1) []),hx];show x<x+1;lia
   ·refine⟨1,?_,(),(),λz=>absurd z c⟩;dsimp[gT,bools,bz<|show ¬(0:Int)<(i:Int)by lia]
  obtain⟨C,r1,r2,r3,r4⟩:∃C:Int,(Ks (g_ (gI (f2 w6)<|gn (gk 6)<|gn (gC j5 (gk 4)<|gC aSub (gk 5)<|eC<|.int 1) gy)<|gW 6) kg [.ref b,.ref L,.ref n,.int (i:Int),.ref R,.int<|0+(k:Int),.int f] (decide<|(0:Int)<0+(k:Int)) S3=.nx [.ref b,.ref L,.ref n,.int (i:Int),.ref R,.int<|0+(k:Int),.int C] S3)/\f<=C/\C<=100 * (i:Int)+4 * (k:Int)+1/\∀x∈row,x<=C:=by
   by_cases c:0<k
   ·have V:=n9 (r:=row) (i:=0+(k:Int)-1) (k:=k-1) () ();have W:row.getD (k-1) 0∈row:=by rw[aG,aF ()];exact b8 _
    have m2:=K _ W;refine⟨if row.getD (k-1) 0>f then row.getD (k-1) 0 else f,?_,by split<;>lia,by split<;>lia,λx hx=>?_⟩
    ·dsimp[gT,bools,a_<|show(0:Int)<0+(k:Int)by lia,G,V]
    ·obtain⟨j,hj,e⟩:=List.getElem_of_mem hx;have:=Sy.lA B (i:=j) (j:=k-1) (x:=x) (y:=row.getD (k-1) 0) () (by rw[aF hj,e])<|getD_at ();split<;>lia
   ·refine⟨f,?_,dP _,(),λx hx=>?_⟩
    ·dsimp[gT,bools,bz<|show ¬(0:Int)<0+(k:Int)by lia]
    ·have:row=[]:=eZ ();rw[this]at hx;cases hx
  have n4:newL [.int 0,.int 0,.int 1,.int 3] S3=.ok (.ref S3.length) (S3++[O.lst [.int 0,.int 0,.int 1,.int 3]]):=iz (show 4<=16777216 by decide);obtain⟨d,S4,e4,d0,d1,U,N⟩:=digit (m:=4) (t.kp (c:=λ_=>False) (Kp.refl.lay (o:=O.lst [.int 0,.int 0,.int 1,.int 3])) λz=>z) ⋯ ⋯;have g4:gm S4 S3.length=some [.int 0,.int 0,.int 1,.int 3]:=N.lst _ _ (by have:=t.lt;lia) gJ;obtain⟨s,hs,s0,s1⟩:∃s:Int,j9 ([.int 0,.int 0,.int 1,.int 3]:ae) d=some (.int s)/\0<=s/\s<=3:=by
   rcases(by lia:d=0\/d=1\/d=2\/d=3)with z|z|z|z<;>subst z
   ·exact⟨0,rfl,by decide,by decide⟩
   ·exact⟨0,rfl,by decide,by decide⟩
   ·exact⟨1,rfl,by decide,by decide⟩
   ·exact⟨3,rfl,by decide,by decide⟩
  have Z:gm S4 R=some (row.map .int):=N.lst _ _ nb<|gZ G;have ll:=jN Z;unfold l7;dsimp[gT,bools,q1,r1,G,n4,e4,g4,hs,Z,aH,mz<|show row.length<16777216 by lia];refine⟨_,_,rfl,row++[C+s],_,_,rfl,by rw[jC ll,bF];rfl,by rw[aM,P];rfl,?_,λx hx=>?_,λc j x y hx hy=>?_,?_,?_⟩
  ·refine dO.mpr ⟨B,cI _ _,λx hx y hy=>?_⟩;have:=aQ.mp hy;have:=r4 x hx
   lia
  ·rcases bC.mp hx with z|z
   ·have:=K x z;lia
   ·have:=aQ.mp z;lia
  ·by_cases z:j<row.length
   ·rw[aO z]at hy;exact f3 c j x y hx hy
   ·rw[bT ()]at hy;have zj:j=k:=by
     have:=(aI.mp hy).1;have:j-row.length<1:=this
     lia
    subst zj;rw[P,bY]at hy;have:y=C+s:=by cases hy;rfl
    have:=q4 c x hx
    lia
  ·obtain⟨g,st,e,q⟩:=U;exact⟨g,st,by rw[iA nb];exact e,q⟩
  ·exact(M.trans<|Kp.refl.lay.trans<|N.mono λr _ z=>.inl z).set (.inl<|.inr rfl)
 ·rintro τ S3 ⟨row,a5',a6',rfl,G,P,B,K,f3,t,M⟩;exact⟨row,_,_,_,rfl,G,(),B,(λx hx=>by have:=K x hx;lia),f3,t,M⟩
end K58
namespace K58
open PySem L2 Am
def DC{S:gu}{ls:ag}(hb:oz S b)(hL:gm S L=some (ls.map .int))(bL:L≠b)(l5:ls.length<=5)(q:∀k∈ls,1<=k/\k<=7)(pw:ls.Pairwise (·>=·)) :
  ∃(n:Nat) (rs:am) (T:List<|ag) (S':gu),jX [.ref b,.ref L] S=.ok (.ref n) S'/\Tab S' n rs T/\Sy.iP T/\wG T/\T.map (λr=>(r.length:Int))=ls/\oz S' b/\Kp (·=b) S S'/\∀r∈n::rs,S.length<=r:=by
 have bS:=hb.lt;have LS:=jN hL;unfold jX n_ nW;dsimp[gT,bools,kT,Nat.reduceAdd,Nat.reduceSub];refine lD (lo:=0) (hi:=(ls.length:Int)) (S1:=S++[.lst []]) (show oF _ _=_ from jB (by dsimp[gT,bools,gZ hL,aH])<|iZ () ())
  (λi τ S1=>∃(rs:am) (T:List<|ag) (V a4 a5 a6:A),τ=[.ref b,.ref L,.ref S.length,V,a4,a5,a6]/\Tab S1 S.length rs T/\Sy.iP T/\T.length=i/\(∀r∈T,∀x∈r,1<=x/\x<=100 * (i:Int))/\T.map (λr=>(r.length:Int))=ls.take i/\oz S1 b/\Kp (·=b) S S1/\∀r∈S.length::rs,S.length<=r)
  (λq=>∃(n:Nat) (rs:am) (T:List<|ag) (S':gu),RS.end (RS.seq q _)=.ok (.ref n) S'/\Tab S' n rs T/\Sy.iP T/\wG T/\T.map (λr=>(r.length:Int))=ls/\oz S' b/\Kp (·=b) S S'/\∀r∈n::rs,S.length<=r)
  ⟨[],[],_,_,_,_,rfl,Tab.nil gJ,trivial,rfl,(λr d=>nomatch d),rfl,hb.kp (c:=λ_=>False) Kp.refl.lay λz=>z,Kp.refl.lay,(λr d=>by rw[aQ.mp d];exact aN _)⟩ ?_ ?_
 ·rintro i τ S1 hi ⟨rs,T,V,a4,a5,a6,rfl,K,t,J,C,B,m,G,f1⟩;left;have hi:i<ls.length:=()
  have hL1:=G.lst _ _ bL hL;have O:=G.len;obtain⟨len,f⟩:∃len:Nat,ls[i]=(len:Int):=⟨ls[i].toNat,by have:=q _<|b8 hi;lia⟩;have q1:=q _<|b8 hi;rw[f]at q1;have M:ls[i]?=some (len:Int):=by rw[aF hi,f]
  have F:0<i->len<=(T.getD (i-1) []).length:=λc=>by
   have e:(T.map λr=>(r.length:Int))[i-1]?=(ls.take i)[i-1]?:=by rw[B]
   rw[aS,aF (),dY (),aF ()]at e;have e:((T[i-1]'()).length:Int)=ls[i-1]'():=aR e;have:=cC.mp pw (i-1) i () hi ();rw[aG,aF ()];show len<=(T[i-1]'()).length
   lia
  have U:S1.length∉S.length::rs:=λz=>by have:=K.lt _ z;lia
  have bt:b∉S.length::rs:=λz=>by have:=f1 b z;lia
  obtain⟨row,a5',a6',S2,e2,g2,N,W,b2,f2,Y,k2⟩:=Cz (S:=S1++[.lst []]) (b:=b) (n:=S.length) (L:=L) (R:=S1.length) (i:=i) (rs:=rs) (T:=T) (ls:=ls) (len:=len) (a5:=a5) (a6:=a6) (m.kp (c:=λ_=>False) Kp.refl.lay λz=>z) (gZ hL1) (K.nB Kp.refl.lay) gJ U () () bL bt J () () M F C;have t2:Tab S2 S.length rs T:=(K.nB Kp.refl.lay).kp k2 λr d z=>by
   rcases z with z|z
   ·exact bt (by rw[<- z];exact d)
   ·exact U<|by rw[<- z];exact d
  have t3:=Tab.snoc t2 g2 U;have tl:=t2.len;have P:Kp (·=b) S S2:=G.lay.old k2 λr d hn z=>by
   rcases z with z|z
   ·exact hn z
   ·lia
  unfold oE;dsimp[gT,bools,show(0:Int)+(i:Int)=(i:Int)by lia,e2,t2.top,aH,mz<|show rs.length<16777216 by lia];refine⟨_,_,rfl,rs++[S1.length],T++[row],_,_,_,_,rfl,t3,tH t ?_ W λu Z=>?_,by rw[aM,J];rfl,λr d x hx=>?_,?_,?_,P.set<|.inr<|aN _,λr d=>?_⟩
  ·intro z;rw[z]at N;have:0=len:=N
   lia
  ·have eu:=yD J Z;have c:0<i:=by
    rcases Nat.eq_zero_or_pos i with z|z
    ·have:T=[]:=eZ ();rw[this]at Z;cases Z
    ·exact z
   rw[eu];exact⟨by rw[N];exact F c,λj x y hx hy=>f2 c j x y hx hy⟩
  ·rcases bC.mp d with z|z
   ·have:=C r z x hx;lia
   ·rw[aQ.mp z]at hx;have:=b2 x hx;lia
  ·rw[bF,B,gh,M];show _++[(row.length:Int)]=_++[(len:Int)];rw[N]
  ·obtain⟨g,st,e,q⟩:=Y;exact⟨g,st,by rw[iA ()];exact e,q⟩
  ·rcases br.mp d with z|z
   ·rw[z];exact aN _
   ·rcases bC.mp z with z|z
    ·exact f1 r (aK _ z)
    ·rw[aQ.mp z];exact O
 ·rintro τ S1 ⟨rs,T,V,a4,a5,a6,rfl,K,t,J,C,B,m,G,f1⟩;dsimp[gT,bools];rw[show((ls.length:Int)-0).toNat=ls.length by lia]at J C B;rw[fX]at B;exact⟨_,_,T,_,rfl,K,t,(λr d x hx=>by have:=C r d x hx;lia),B,m,G,f1⟩
end K58
namespace K58
open PySem L2 Am
def Bu{src:Ic}{S:gu}{n:Nat}{xs:ae}(h:gm S n=some xs)(hs:src τ S=.ok (g8 n xs.length) S)(hl:xs.length<=16777216) :
  ∃(qs:am) (m:Nat) (S':gu),iI (none::cap) src (gW 0) iL (ko gy) τ S=.ok (.ref m) S'/\Tab S' m qs (List.replicate xs.length [])/\kX S S'/\∀r∈m::qs,S.length<=r:=by
 obtain⟨S',h1,h2,G,F⟩:=uL (s:=g8 n xs.length) (g:=gW 0) (e:=ko gy) (T:=λt=>∃y,t=y::jJ cap τ)
  (λi S1=>kX S S1/\S1.length=S.length+i/\∀j,j<i->gm S1 (S.length+j)=some []) (λi=>xs.getD i .unb) (λi=>.ref<|S.length+i)
  (λi S1 d h9=>by
   obtain⟨k,_,_⟩:=h9;have d:i<xs.length:=d;show(gm S1 n).bind _=_;rw[k.lst n _ (λz=>z) h,bx,aF d,aG,aF d];rfl)
  (λS1 h9=>by
   obtain⟨k,_,_⟩:=h9;show(match gm S1 n with
    | some ys=>decide (ys.length<=xs.length)
    | none=>false)=true
   rw[k.lst n _ (λz=>z) h];simp)
  (λi t S1 d ⟨y,hy⟩ ⟨k,f,C⟩=>by
   have d:i<xs.length:=d;subst hy;refine⟨xs.getD i .unb::jJ cap τ,S1,S1++[.lst []],rfl,⟨_,rfl⟩,?_,k.lay,by rw[aM,f];rfl,λj B=>?_⟩
   ·dsimp[gT,bools,<- f]
   ·by_cases z:j<i
    ·exact gZ (C j z)
    ·have:j=i:=()
     subst this;rw[<- f];exact gJ)
  xs.length 0 (jJ (none::cap) τ) S rfl ⟨_,rfl⟩ ⟨Kp.refl,rfl,λj B=>absurd B<|cj _⟩
 have G:S'.length=S.length+xs.length:=G;have F:∀j,j<xs.length->gm S' (S.length+j)=some []:=F;refine⟨(List.range' 0 xs.length).map (S.length+·),S'.length,S'++[.lst<|((List.range' 0 xs.length).map (S.length+·)).map .ref],?_,⟨gJ,Rows.mk (by simp) λi d=>?_,?_⟩,h2.lay,λr C=>?_⟩
 ·unfold iI;rw[hs,R.iV];show R.h_ (iU (g8 n xs.length) (gW 0) iL _ xs.length 0 (jJ (none::cap) τ) S) _=_;rw[h1,R.gY,iz<|by simp;lia,bV];rfl
 ·refine gZ ?_;rw[cU]at d;have:((List.range' 0 xs.length).map (S.length+·)).getD i 0=S.length+i:=by
   rw[aG,aS,List.getElem?_range' ()];simp
  rw[this,F i (),aG,dh,aX d];rfl
 ·rw[bD];refine⟨λz=>?_,?_⟩
  ·obtain⟨j,B,e⟩:=cu.mp z;have:=List.mem_range'.mp B
   lia
  ·rw[fM,eB];exact(List.nodup_range' (step:=1)).imp λh z=>h ()
 ·rcases br.mp C with z|z
  ·rw[z];lia
  ·obtain⟨j,B,e⟩:=cu.mp z
   lia
structure WT (Q:List (ag))(i:Nat):Prop where
 inc:∀j,Sy.rX (Q.getD j [])
 fit:∀j,Sy.Fits (Q.getD (j+1) []) (Q.getD j [])
 pm:Q.flatten.Perm<|iw 1<|(i:Int)+1
def pV{Q:List<|ag}{a:Nat}{r:ag}(h:a<Q.length)(j:Nat):(Q.set a r).getD j []=if j=a then r else Q.getD j []:=by
 rw[aG,dG];by_cases c:a=j
 ·rw[aX c,aX c.symm,aX h];rfl
 ·rw[aZ c,aZ λz=>c z.symm,<- aG]
def WT.top{Q:List<|ag}{i:Nat}(h:WT Q i){x:Int}(hx:x∈Q.getD j []):x<=(i:Int):=by
 have:x∈iw 1 ((i:Int)+1):=h.pm.mem_iff.mp (cR.mpr ⟨Q.getD j [],by
  rw[aG]at hx ⊢
  cases e:Q[j]? with
  | none=>rw[e]at hx;cases hx
  | some q=>exact bf e,hx⟩)
 have:=kI.mp this
 lia
def WT.add{Q:List<|ag}{i a:Nat}(h:WT Q i)(ha:a<Q.length)(c:a=0\/(Q.getD a []).length<(Q.getD (a-1) []).length):WT (Q.set a<|Q.getD a []++[(i:Int)+1]) (i+1):=by
 refine⟨λj=>?_,λj=>?_,?_⟩
 ·rw[pV ha];by_cases z:j=a
  ·rw[aX z];refine dO.mpr ⟨h.inc a,cI _ _,λx hx y hy=>?_⟩;have:=aQ.mp hy;have:=h.top hx
   lia
  ·rw[aZ z];exact h.inc j
 ·rw[pV ha,pV ha];obtain⟨f1,f2⟩:=h.fit j;by_cases z:j+1=a
  ·rw[aX z,aZ ()];subst z;rw[show j+1-1=j by lia]at c;refine⟨by rw[aM];show _+1<=_;lia,λk x y hx hy=>?_⟩;by_cases w:k<(Q.getD (j+1) []).length
   ·rw[aO w]at hy;exact f2 k x y hx hy
   ·rw[bT ()]at hy;have hm:y∈[(i:Int)+1]:=bf hy;have:=aQ.mp hm;have:=h.top (bf hx)
    lia
  ·rw[aZ z];by_cases w:j=a
   ·rw[aX w];subst w;refine⟨by rw[aM];lia,λk x y hx hy=>?_⟩;have:=(aI.mp hy).1;rw[aO ()]at hx;exact f2 k x y hx hy
   ·rw[aZ w];exact⟨f1,f2⟩
 ·have e1:Q.flatten=(Q.take a).flatten++(Q.getD a []++(Q.drop<|a+1).flatten):=by
   rw[<- bE,<- jU ha,<- fC,eU]
  have e2:(Q.set a<|Q.getD a []++[(i:Int)+1]).flatten=(Q.take a).flatten++(Q.getD a []++([(i:Int)+1]++(Q.drop<|a+1).flatten)):=by
   rw[cV,aX ha,fC,bE,bK<|Q.getD a []]
  have d:iw 1 (((i+1:Nat):Int)+1)=iw 1 ((i:Int)+1)++[(i:Int)+1]:=by
   unfold iw;rw[show(((i+1:Nat):Int)+1-1).toNat=i+1 by lia,show((i:Int)+1-1).toNat=i by lia,d9,bF];show _++[1+(i:Int)]=_;rw[f7 1]
  rw[e2,d];refine List.Perm.trans ?_<|h.pm.append_right _;rw[e1,bK,bK];exact(dF.append_left _).append_left _
theorem Aw:∀{Q:List<|ag},(∀j,Sy.rX<|Q.getD j [])->(∀j,Sy.Fits (Q.getD (j+1) [])<|Q.getD j [])->(∀j,j<Q.length->Q.getD j []≠[])->Sy.iP Q
 | [],_,_,_=>trivial
 | [q],h1,_,h3=>⟨h3 0<|by simp,h1 0,(λu d=>nomatch d),trivial⟩
 | q::p::Q,h1,h2,h3=>⟨h3 0<|by simp,h1 0,(λu d=>by cases d;exact h2 0),Aw (λj=>h1<|j+1) (λj=>h2<|j+1) λj f=>h3 (j+1)<|by simpa using f⟩
abbrev qM (Q:List<|ag)(ls:ag)(a:Nat):Prop:=a<ls.length/\((Q.getD a []).length:Int)<ls.getD a 0/\(a=0\/(Q.getD a []).length<(Q.getD (a-1) []).length)
theorem full{Q:List<|ag}{ls:ag}(h:∀a,¬qM Q ls a)(pw:ls.Pairwise (·>=·))(le:∀j,((Q.getD j []).length:Int)<=ls.getD j 0):∀j,j<ls.length->((Q.getD j []).length:Int)=ls.getD j 0
 | 0,hj=>by
  have:=h 0;have:=le 0;by_cases c:((Q.getD 0 []).length:Int)<ls.getD 0 0
  ·exact absurd ⟨hj,c,.inl rfl⟩ (h 0)
  ·lia
 | j+1,hj=>by
  have e:=full h pw le j ();have:=le<|j+1;by_cases c:((Q.getD (j+1) []).length:Int)<ls.getD (j+1) 0
  ·have p:=cC.mp pw j (j+1) () hj ();have g:∀k (d:k<ls.length),ls.getD k 0=ls[k]:=λk d=>by rw[aG,aF d];rfl
   rw[g _ hj]at c;rw[g j ()]at e;exact absurd ⟨hj,by rw[g _ hj];exact c,.inr<|by rw[show j+1-1=j by lia];lia⟩<|h<|j+1
  ·lia
def zo{Q:List<|ag}{ls:ag}(hl:Q.length=ls.length)(h:∀j,j<ls.length->((Q.getD j []).length:Int)=ls.getD j 0):Q.map (λr=>(r.length:Int))=ls:=by
 refine List.ext_getElem (by rw[aH,hl]) λj h1 h2=>?_;have:=h j h2;rw[fW];rw[aG,aF (),aG,aF h2]at this;exact this
def BP{Q:List<|ag}{ls:ag}{i:Nat}(w:WT Q i)(pw:ls.Pairwise (·>=·))(le:∀j,((Q.getD j []).length:Int)<=ls.getD j 0)(hl:Q.length=ls.length)(hi:(i:Int)<ls.sum):∃a,qM Q ls a:=by
 refine Classical.byContradiction λc=>?_;have:=zo hl<|full (λa z=>c ⟨a,z⟩) pw le;have s:=IV Q;rw[this]at s;have f:=w.pm.length_eq;rw[kF,pY]at f
 lia
def Lk(Q:List<|ag)(j:Nat):(Q.map λr=>(r.length:Int)).getD j 0=((Q.getD j []).length:Int):=by
 rw[aG,aS,aG]
 cases Q[j]?<;>rfl
theorem EM:∀(xs ys:ag),xs.length=ys.length->(∀j,xs.getD j 0<=ys.getD j 0)->xs.sum<=ys.sum
 | [],[],_,_=>dP _
 | x::xs,y::ys,hl,h=>by
  have h0:x<=y:=h 0;have:=EM xs ys (by simpa using hl) λj=>h<|j+1;rw[cO,cO]
  lia
theorem Ez:∀(xs ys:ag),xs.length=ys.length->(∀j,xs.getD j 0<=ys.getD j 0)->∀a,a<ys.length->xs.getD a 0<ys.getD a 0->xs.sum<ys.sum
 | [],[],_,_,a,ha,_=>absurd ha (cj _)
 | x::xs,y::ys,hl,h,a,ha,hlt=>by
  have d:xs.length=ys.length:=by simpa using hl
  have h0:x<=y:=h 0;have hs:∀j,xs.getD j 0<=ys.getD j 0:=λj=>h<|j+1;have f:xs.sum<=ys.sum:=EM xs ys d hs;rw[cO,cO]
  cases a with
  | zero=>
   have:x<y:=hlt
   lia
  | succ a=>
   have:=Ez xs ys d hs a (by simpa using ha) hlt
   lia
end K58
namespace K58
open PySem L2 Am
def BB{n R:Nat}{Q:List<|ag}{ls:ag}(hL:gm S L=some (ls.map .int))(hq:Tab S n qs Q)(hR:gm S R=some [])(nR:R∉n::qs)(nL:R≠L)(hl:Q.length=ls.length)(l5:ls.length<=5) :
  ∃(so:ag) (a5' a6':A) (S':gu),lU kr (gW 5) kK [a0,.ref L,.ref n,a3,.ref R,a5,a6] S=.nx [a0,.ref L,.ref n,a3,.ref R,a5',a6'] S'/\gm S' R=some (so.map .int)/\so.length<=5/\(∀x∈so,∃a:Nat,x=(a:Int)/\qM Q ls a)/\(∀a:Nat,qM Q ls a->(a:Int)∈so)/\Kp (·=R) S S':=by
 refine lD (lo:=0) (hi:=(ls.length:Int)) (S1:=S) (show kr _ _=_ from jB (by dsimp[gT,bools,hL,aH])<|iZ () ())
  (λk τ S3=>∃(so:ag) (a5' a6':A),τ=[a0,.ref L,.ref n,a3,.ref R,a5',a6']/\gm S3 R=some (so.map .int)/\so.length<=k/\(∀x∈so,∃a:Nat,x=(a:Int)/\qM Q ls a)/\(∀a:Nat,a<k->qM Q ls a->(a:Int)∈so)/\Kp (·=R) S S3)
  (λq=>∃(so:ag) (a5' a6':A) (S':gu),q=.nx [a0,.ref L,.ref n,a3,.ref R,a5',a6'] S'/\gm S' R=some (so.map .int)/\so.length<=5/\(∀x∈so,∃a:Nat,x=(a:Int)/\qM Q ls a)/\(∀a:Nat,qM Q ls a->(a:Int)∈so)/\Kp (·=R) S S')
  ⟨[],_,_,rfl,hR,aN _,(λ_ z=>by cases z),(λa z=>absurd z<|cj _),Kp.refl⟩ ?_ ?_
 ·rintro k τ S3 f ⟨so,a5',a6',rfl,B,W,C,G,t⟩;left;have f:k<ls.length:=()
  have K:Tab S3 n qs Q:=hq.kp t λr U z=>nR (by rw[<- z];exact U);have M:=t.lst _ _ (λz=>nL z.symm) hL;have len:=K.len;have m:∀j,j<ls.length->qs[j]?=some (qs.getD j 0):=λj J=>by rw[aG,aF ()];rfl
  have top:∀j,j<ls.length->j9 (qs.map A.ref) (j:Int)=some (.ref<|qs.getD j 0):=λj J=>jS (k:=j) rfl (by rw[aS,m j J];rfl);have row:∀j,j<ls.length->gm S3 (qs.getD j 0)=some ((Q.getD j []).map .int):=λj J=>(K.rows.get<|m j J).2;have O:=n9 (r:=ls) (i:=(k:Int)) (k:=k) rfl f;have P:=jN B;have F:qM Q ls k->∃(d:ag) (a5' a6':A),[a0,A.ref L,.ref n,a3,.ref R,.int (k:Int),.bl true]=[a0,.ref L,.ref n,a3,.ref R,a5',a6']/\gm (S3.set R<|.lst<|so.map .int++[.int (k:Int)]) R=some (d.map .int)/\d.length<=k+1/\(∀x∈d,∃a:Nat,x=(a:Int)/\qM Q ls a)/\(∀a:Nat,a<k+1->qM Q ls a->(a:Int)∈d)/\Kp (·=R) S (S3.set R<|.lst<|so.map .int++[.int (k:Int)]):=λc=>by
   refine⟨so++[(k:Int)],_,_,rfl,by rw[jC P,bF];rfl,by rw[aM];show so.length+1<=_;lia,λx hx=>?_,λa V g=>?_,t.set<|.inl rfl⟩
   ·rcases bC.mp hx with z|z
    ·exact C x z
    ·exact⟨k,aQ.mp z,c⟩
   ·by_cases z:a=k
    ·rw[z];exact aP _ (aQ.mpr rfl)
    ·exact dH _<|G a () g
  have no:¬qM Q ls k->∀a,a<k+1->qM Q ls a->(a:Int)∈so:=λc a V g=>by
   by_cases z:a=k
   ·rw[z]at g;exact absurd g c
   ·exact G a () g
  unfold kK;rw[show(0:Int)+(k:Int)=(k:Int)by lia];dsimp[gT,bools,K.top,top k f,row k f,aH,M,O];by_cases c1:((Q.getD k []).length:Int)<ls.getD k 0
  ·rw[a_ c1];dsimp[gT,bools];by_cases c2:k=0
   ·rw[show((k:Int) == 0)=true by rw[c2];rfl];dsimp[gT,bools,B,aH,mz<|show so.length<16777216 by lia];exact⟨_,_,rfl,F ⟨f,c1,.inl c2⟩⟩
   ·rw[show((k:Int) == 0)=false by rw[dU];lia];have Y:j9 (qs.map A.ref) ((k:Int)-1)=some (.ref<|qs.getD (k-1) 0):=by rw[show(k:Int)-1=((k-1:Nat):Int)by lia];exact top (k-1) ()
    dsimp[gT,bools,K.top,Y,row (k-1) (),top k f,row k f,aH];by_cases N:(Q.getD k []).length<(Q.getD (k-1) []).length
    ·rw[a_<|show((Q.getD k []).length:Int)<((Q.getD (k-1) []).length:Int)by lia];dsimp[gT,bools,B,aH,mz<|show so.length<16777216 by lia];exact⟨_,_,rfl,F ⟨f,c1,.inr N⟩⟩
    ·rw[bz<|show ¬((Q.getD k []).length:Int)<((Q.getD (k-1) []).length:Int)by lia];dsimp[gT,bools];exact⟨_,_,rfl,so,_,_,rfl,B,(),C,no (λz=>by
      rcases z.2.2 with w|w
      ·exact c2 w
      ·exact N w),t⟩
  ·rw[bz c1];dsimp[gT,bools];exact⟨_,_,rfl,so,_,_,rfl,B,(),C,no λz=>c1 z.2.1,t⟩
 ·rintro τ S3 ⟨so,a5',a6',rfl,B,W,C,G,t⟩;exact⟨so,_,_,_,rfl,B,(),C,(λa g=>G a (by have:=g.1;lia) g),t⟩
def BI{ls:ag}(hb:oz S b)(hL:gm S L=some (ls.map .int))(bL:L≠b)(l5:ls.length<=5)(q:∀k∈ls,1<=k/\k<=7)(pw:ls.Pairwise (·>=·))(s0:ls.sum<=40)(s1:0<=ls.sum) :
  ∃(n:Nat) (qs:am) (Q:List<|ag) (S':gu),jE [.ref b,.ref L] S=.ok (.ref n) S'/\Tab S' n qs Q/\Sy.iP Q/\Q.map (λr=>(r.length:Int))=ls/\Q.flatten.Perm (iw 1<|ls.sum+1)/\oz S' b/\Kp (·=b) S S':=by
 have bS:=hb.lt;have LS:=jN hL;obtain⟨qs,n,S1,e1,t1,k1,f1⟩:=Bu (cap:=[]) (τ:=[.ref b,.ref L,.unb,.unb,.unb,.unb,.unb]) (src:=jq<|gk 1) hL (jM (by dsimp[gT,bools]) hL) (by rw[aH];lia);rw[aH]at t1;have Y:=k1.lst _ _ (λz=>z) hL;have nb:∀r∈n::qs,r≠b:=λr C z=>by have:=f1 r C;lia
 have nL:∀r∈n::qs,r≠L:=λr C z=>by have:=f1 r C;lia
 have V:∀(m j:Nat),(List.replicate m ([]:ag)).getD j []=[]:=λm j=>by
  rw[aG,dh];split<;>rfl
 have w0:WT (List.replicate ls.length []) 0:=⟨(λj=>by rw[V];exact List.Pairwise.nil),(λj=>by rw[V,V];exact⟨aN _,λ_ _ _ h=>by cases h⟩),(by rw[List.flatten_replicate_nil];exact dM _)⟩;have l0:∀j,0<=ls.getD j 0:=λj=>by
  rw[aG]
  cases e:ls[j]? with
  | none=>exact dP 0
  | some x=>have:=q x<|bf e;show 0<=x;lia
 unfold jE mV mR;dsimp[gT,bools,kT,Nat.reduceAdd,Nat.reduceSub,e1];refine lD (lo:=1) (hi:=ls.sum+1) (S1:=S1) (show n8 _ _=_ from vL (S1:=S1) (S2:=S1) (by dsimp[gT,bools]) (by
   have:Iu (.ref L) S1=.ok (.int ls.sum) S1:=by
    show opt (gm S1 L) _=_;rw[Y,ie,ints_map,ie]
   dsimp[gT,bools,this]) (iZ ⋯ ⋯)<|iZ () ())
  (λi τ S2=>∃(Q:List<|ag) (a3 a4 a5 a6:A),τ=[.ref b,.ref L,.ref n,a3,a4,a5,a6]/\Tab S2 n qs Q/\WT Q i/\Q.length=ls.length/\(∀j,((Q.getD j []).length:Int)<=ls.getD j 0)/\oz S2 b/\Kp (·=b) S S2)
  (λr=>∃(n:Nat) (qs:am) (Q:List<|ag) (S':gu),RS.end (RS.seq r _)=.ok (.ref n) S'/\Tab S' n qs Q/\Sy.iP Q/\Q.map (λr=>(r.length:Int))=ls/\Q.flatten.Perm (iw 1<|ls.sum+1)/\oz S' b/\Kp (·=b) S S')
  ⟨_,_,_,_,_,rfl,t1,w0,by rw[cU],(λj=>by rw[V];exact l0 j),hb.kp k1 λz=>z,Kp.of0 k1⟩ ?_ ?_
 ·rintro i τ S2 hi ⟨Q,a3,a4,a5,a6,rfl,t2,B,J,t,G,K⟩;left;have hi:(i:Int)<ls.sum:=()
  have Z:=K.lst _ _ bL hL;have ln2:=K.len;have nR:S2.length∉n::qs:=λz=>by have:=t2.lt _ z;lia
  obtain⟨M,a5',a6',S3,e3,g3,l3,c3,d3,k3⟩:=BB (S:=S2++[.lst []]) (R:=S2.length) (a0:=.ref b) (a3:=.int<|(i:Int)+1) (a5:=a5) (a6:=a6) (gZ Z) (t2.nB Kp.refl.lay) gJ nR () J l5;have t3:Tab S3 n qs Q:=(t2.nB Kp.refl.lay).kp k3 λr C z=>nR (by rw[<- z];exact C);have W:oz S3 b:=(G.kp (c:=λ_=>False) (Kp.refl.lay (o:=O.lst [])) λz=>z).kp k3 ();obtain⟨a,U⟩:=BP B pw t J hi;have pos:0<M.length:=List.length_pos_of_mem<|d3 a U;obtain⟨d,S4,e4,d0,d1,hb4,k4⟩:=digit (m:=(M.length:Int)) W () ();have g4:=k4.lst _ _ (show ¬S2.length=b by lia) g3;have P:Tab S4 n qs Q:=t3.kp k4 λr C z=>nb r C z;have ad:=n9 (r:=M) (i:=d) (k:=d.toNat) () ();obtain⟨c,ec,cc⟩:=c3 (M.getD d.toNat 0) (by rw[aG,aF ()];exact b8 _);rw[ec]at ad;have cl:c<Q.length:=by have:=cc.1;lia
  have len:=P.len;have f:qs[c]?=some (qs.getD c 0):=by rw[aG,aF ()];rfl
  have top:j9 (qs.map A.ref) (c:Int)=some (.ref<|qs.getD c 0):=jS (k:=c) rfl (by rw[aS,f];rfl);have row:=(P.rows.get f).2;have q7:(Q.getD c []).length<=40:=by
   have z:=B.pm.length_eq;rw[kF,pY]at z;have:=Tb.ow (Q.map List.length) c;rw[Tb.jY]at this
   lia
  have t5:=P.set (ys:=Q.getD c []++[(i:Int)+1]) f;have F:qs.getD c 0∈n::qs:=aK _<|bf f;have k04:Kp (·=b) S S4:=(K.lay.old k3 λr C _ z=>()).trans k4;unfold nJ;dsimp[gT,bools,e3,g3,aH,t3.top,e4,P.top,g4,ad,top,row,mz<|show(Q.getD c []).length<16777216 by lia,show(1:Int)+(i:Int)=(i:Int)+1 by lia];rw[bF]at t5;refine⟨_,_,rfl,_,_,_,_,_,rfl,t5,B.add cl cc.2.2,by rw[bA];exact J,λj=>?_,?_,k04.set<|.inr<|f1 _ F⟩
  ·rw[pV cl];by_cases z:j=c
   ·rw[aX z,z,aM];have:=cc.2.1;show(((Q.getD c []).length+1:Nat):Int)<=_
    lia
   ·rw[aZ z];exact t j
  ·obtain⟨g,st,e,q⟩:=hb4;exact⟨g,st,by rw[iA<|nb _ F];exact e,q⟩
 ·rintro τ S2 ⟨Q,a3,a4,a5,a6,rfl,t2,B,J,t,G,K⟩;obtain⟨N,hN⟩:∃N:Nat,ls.sum=(N:Int):=⟨ls.sum.toNat,()⟩;rw[show(ls.sum+1-1).toNat=N by lia]at B;have fu:Q.map (λr=>(r.length:Int))=ls:=by
   refine zo J<|full (λa U=>?_) pw t;have s:=B.pm.length_eq;rw[kF,pY]at s;have lt:=Ez (Q.map λr=>(r.length:Int)) ls (by rw[aH,J]) (λj=>by
    have:=t j;rw[<- Lk]at this;exact this) a U.1<|by rw[Lk];exact U.2.1
   rw[IV]at lt
   lia
  dsimp[gT,bools];refine⟨_,_,Q,_,rfl,t2,Aw B.inc B.fit λj hj z=>?_,fu,by rw[hN];exact B.pm,G,K⟩;have:((Q.getD j []).length:Int)∈ls:=by
   rw[<- fu,aG,aF hj];exact cu.mpr ⟨_,b8 hj,rfl⟩
  rw[z]at this;have:=(q _ this).1;simp at this
end K58
namespace K58
open PySem L2 Am
def CO{n k:Nat}(h:Tab S n rs T)(h':Tab S m qs U):oi S (k+3) (.ref n) (.ref m)=some (decide<|T=U):=by
 show(gm S n).bind (λxs=>(gm S m).bind λys=>nZ (oi S<|k+2) xs ys)=_;rw[h.top,bx,h'.top,bx];exact qt h.rows h'.rows
def JX{n:Nat}(h1:Tab S n rs T)(h2:Tab S m qs U)(h3:Tab S n' rs' T)(h4:Tab S m' qs' U):oi S 12 (.tup [.ref n,.ref m]) (.tup [.ref n',.ref m'])=some true:=by
 show nZ (oi S 11) [.ref n,.ref m] [.ref n',.ref m']=_;have e1:oi S 11 (.ref n) (.ref n')=some true:=by rw[CO (k:=8) h1 h3,a_ rfl]
 have e2:oi S 11 (.ref m) (.ref m')=some true:=by rw[CO (k:=8) h2 h4,a_ rfl]
 show(oi S 11 (.ref n)<|.ref n').bind _=_;rw[e1,bx];show Option.map _ ((oi S 11 (.ref m)<|.ref m').bind _)=_;rw[e2];rfl
def zT{n L:Nat}{xs:ag}(h:gm S n=some [.ref L])(hL:gm S L=some (xs.map .int))(nn:n≠L):Tab S n [L] [xs]:=
 ⟨h,⟨hL,trivial⟩,bD.mpr ⟨(λz=>nn<|aQ.mp z),bD.mpr ⟨(λz=>nomatch z),gg⟩⟩⟩
theorem rC(ro:Nat->Nat):∀(N:Nat) (P:List<|ag),(Sy.qO ro N P).length=N
 | 0,_=>rfl
 | k+1,P=>by
  show(Sy.qO ro k _++[_]).length=_;rw[aM,rC];rfl
def wm{S:gu}{n N:Nat}{P:List<|ag}(h:Tab S n rs P)(h':Tab S m qs Q)(pr:Pr P Q N):∃(L:Nat) (S':gu),jQ [.ref n,.ref m] S=.ok (.ref L) S'/\gm S' L=some ((qa P Q N).map .int)/\kX S S'/\S.length<=L:=by
 obtain⟨z1,z2,z3,z4⟩:=pr.small;have lr:(qa P Q N).length<=40:=by show(Sy.qO _ N P).length<=40;rw[rC];exact pr.le
 obtain⟨as,a,S1,e1,t1,V,f1⟩:=v_ h ();obtain⟨bs,b,S2,e2,t2,U,f2⟩:=v_ (h'.nB V) ();have f:=t1.nB U;obtain⟨L,S3,e3,g3,k3,l3⟩:=sH f t2 pr;have k03:=(V.trans U).trans k3;have LS:=jN g3;obtain⟨S4,k⟩:∃S4,S4=S3++[O.lst [.ref L]]:=⟨_,rfl⟩;obtain⟨S5,B⟩:∃S5,S5=S4++[O.lst [.ref L]]:=⟨_,rfl⟩;have J:kX S3 S4:=by rw[k];exact Kp.refl.lay
 have G:kX S4 S5:=by rw[B];exact Kp.refl.lay
 have l4:S4.length=S3.length+1:=by rw[k];simp
 have x4:gm S4 S3.length=some [.ref L]:=by rw[k];exact gJ
 have x5:gm S5 S4.length=some [.ref L]:=by rw[B];exact gJ
 have g5:=G.lst _ _ (λz=>z)<|J.lst _ _ (λz=>z) g3;obtain⟨W,e6,k6⟩:=Kc (zT (G.lst _ _ (λz=>z) x4) g5 ()) (zT x5 g5 ()) (by show 1<=1000;decide) (λi=>by
  cases i with
  | zero=>show(qa P Q N).length<=1000;lia
  | succ i=>exact cN _)
 have g:=(J.trans G).trans k6;have d:=k3.trans g;have q1:=pH<|((f.nB d)).eq<|(h.nB<|V.trans U).nB d;have q2:=pH<|(t2.nB d).eq<|(h'.nB<|V.trans U).nB d;rw[a_ rfl,cF]at q1 q2;have g6:=g.lst _ _ (λz=>z) g3;obtain⟨F,C⟩:∃F,F=W++[O.lst<|(qa P Q N).map .int]:=⟨_,rfl⟩;have j:kX W F:=by rw[C];exact Kp.refl.lay
 have g7:=j.lst _ _ (λz=>z) g6;have x7:gm F W.length=some ((qa P Q N).map .int):=by rw[C];exact gJ
 obtain⟨S8,K⟩:∃S8,S8=F.set L (.lst<|(qa P Q N).map .int++[.int 0]):=⟨_,rfl⟩;have t:Kp (·=L) F S8:=by rw[K];exact Kp.refl.set (.inl rfl)
 have ln2:=U.len;have ln1:=V.len;have ln6:=g.len;have lts:∀r∈a::as,r<S2.length:=f.lt;have Y:∀r∈b::bs,r<S2.length:=t2.lt;have t18:=((f.nB d).nB j).kp t (λr Z z=>by have:=lts r Z;lia);have t28:=((t2.nB d).nB j).kp t (λr Z z=>by have:=Y r Z;lia);obtain⟨M,S9,e9,g9,k9,l9⟩:=sH t18 t28 pr;have x9:=k9.lst _ _ (λz=>z)<|t.lst _ _ () x7;have q3:=pH<|xQ g9 x9;rw[a_ rfl,cF]at q3;have li:mF (.ref L) W=.ok (.ref W.length) F:=by
  rw[C];dsimp[gT,bools,g6]
 have k0:kX S S9:=(((k03.trans g).trans j).old t λr Z _ z=>()).trans k9;unfold jQ oN oS;dsimp[gT,bools,kT,Nat.reduceAdd,Nat.reduceSub,e1,e2,e3,<- k,<- B,e6,cF,q1,q2,li,g7,aH,mz<|show(qa P Q N).length<16777216 by lia,<- K,e9,q3];exact⟨_,_,rfl,x9,k0,()⟩
def Ce{T:List<|ag}{U:List<|ag}(h:T.map (λr=>(r.length:Int))=U.map (λr=>(r.length:Int))):T.map List.length=U.map List.length:=by
 have:=b_ (List.map Int.toNat) h;rw[bV,bV]at this;exact this
def BF{ls:ag}(l5:ls.length<=5)(q:∀k∈ls,1<=k/\k<=7):0<=ls.sum/\ls.sum<=7 * (ls.length:Int):=by
 clear l5
 induction ls with
 | nil=>exact⟨dP _,by show(0:Int)<=7 * ((0:Nat):Int);decide⟩
 | cons x xs d=>
  obtain⟨a,b⟩:=d λk f=>q k<|aK _ f;have:=q x<|aY ..;rw[cO,bB]
  lia
theorem yU:∀(T:List<|ag) (x:Int) (r:ag) (y:Int),r∈Tb.put T x->y∈r->y=x\/∃q∈T,y∈q
 | [],x,r,y,hr,hy=>by
  have:r=[x]:=aQ.mp hr;rw[this]at hy;exact .inl<|aQ.mp hy
 | q::T,x,r,y,hr,hy=>by
  by_cases c:Tb.fg q x=q.length
  ·rw[Tb.lu c]at hr
   rcases br.mp hr with z|z
   ·rw[z]at hy
    rcases bC.mp hy with w|w
    ·exact .inr ⟨q,aY ..,w⟩
    ·exact .inl<|aQ.mp w
   ·exact .inr ⟨r,aK _ z,hy⟩
  ·rw[Tb.nM c]at hr;have lt:=Tb.tR c
   rcases br.mp hr with z|z
   ·rw[z]at hy
    rcases List.mem_or_eq_of_mem_set hy with w|w
    ·exact .inr ⟨q,aY ..,w⟩
    ·exact .inl w
   ·rcases yU T _ r y z hy with w|⟨p,hp,w⟩
    ·exact .inr ⟨q,aY ..,by rw[w];exact bf<|getD_at lt⟩
    ·exact .inr ⟨p,aK _ hp,w⟩
theorem wL{xs:ag}(hx:∀x∈xs,1<=x/\x<=1000000000):∀n,n<=xs.length->wG (Tb.tabs xs n).1
 | 0,_=>λr d=>nomatch d
 | n+1,h=>λr d y hy=>by
  rcases yU (Tb.tabs xs n).1 (xs.getD n 0) r y d hy with z|⟨q,f,z⟩
  ·rw[z];exact hx _ (bf<|getD_at ())
  ·exact wL hx n () q f y z
theorem wC:∀(Q:List<|ag) (i:Nat) (m:Int),(Tb.add Q i m).flatten.Perm (m::Q.flatten)
 | [],_,m=>dM _
 | q::Q,0,m=>by
  show((q++[m])::Q).flatten.Perm (m::(q::Q).flatten);rw[bE,bE,bK];exact eX
 | q::Q,i+1,m=>by
  show(q::Tb.add Q i m).flatten.Perm (m::(q::Q).flatten);rw[bE,bE];exact((wC Q i m).append_left q).trans eX
theorem tW(xs:ag):∀n,(Tb.tabs xs n).2.flatten.Perm (iw 1<|(n:Int)+1)
 | 0=>dM _
 | n+1=>by
  have d:iw 1 (((n+1:Nat):Int)+1)=iw 1 ((n:Int)+1)++[(n:Int)+1]:=by
   unfold iw;rw[show(((n+1:Nat):Int)+1-1).toNat=n+1 by lia,show((n:Int)+1-1).toNat=n by lia,d9,bF];show _++[1+(n:Int)]=_;rw[f7 1]
  rw[d];exact((wC _ _ _).trans<|(tW xs n).cons _).trans (dF (l₁:=[(n:Int)+1]))
def D0(P:List<|ag):Sy.pad P P.length=P:=by unfold Sy.pad;rw[bY,dW,bZ]
def GG{xs:ag}(hl:xs.length<=40)(hx:∀x∈xs,1<=x/\x<=1000000000):Pr (Tb.tabs xs xs.length).1 (Tb.tabs xs xs.length).2 xs.length/\qa (Tb.tabs xs xs.length).1 (Tb.tabs xs xs.length).2 xs.length=xs:=by
 refine⟨⟨Sy.qE xs<|aN _,Sy.qQ xs _<|aN _,wL hx _<|aN _,(Tb.jy xs _).symm,hl,tW xs _⟩,?_⟩;have:=Sy.xg xs (λk=>Sy.wh (Tb.tabs xs xs.length).2 (k:Int)) xs.length (aN _) (Tb.tabs xs xs.length).1.length (λk d=>(Sy.vt xs xs.length).2.2 k d)<|aN _;rw[D0,fX]at this;exact this
def FW{P:List<|ag}{N:Nat}(pr:Pr P Q N):Tb.tabs (qa P Q N) (qa P Q N).length=(P,Q):=by
 have:=Sy.v5 (λk=>Sy.wh Q (k:Int)) N (m:=P.length) pr.tp pr.tq pr.sh pr.pm (λk _=>rfl)<|aN _;rw[D0]at this;show Tb.tabs (Sy.qO _ N P) (Sy.qO _ N P).length=_;rw[rC];exact this.2
end K58
namespace K58
open PySem L2 Am
def Kl(ns:ag)(hl:ns.length<=63):∃S',tD [.frz<|ns.map .int] []=.ok (.bl true) S':=by
 generalize([]:gu)=S;unfold tD Fq C8;dsimp[gT,bools,kT,Nat.reduceAdd,Nat.reduceSub];generalize hM:(if (if (6:Int)<(ns.length:Int)then(6:Int)else(ns.length:Int))>2 then(if (6:Int)<(ns.length:Int)then(6:Int)else(ns.length:Int))else 2)=M;have M0:2<=M:=by rw[<- hM];split<;>lia
 have M1:M<=6:=by rw[<- hM];split<;>split<;>lia
 refine lD (lo:=0) (hi:=M) (S1:=S) (show zx _ _=_ from jB (by dsimp[gT,bools,aH,hM])<|iZ () ())
  (λi τ S1=>∃a1 a2 a3 a4 a5 a6 a7,τ=[.frz<|ns.map .int,a1,a2,a3,a4,a5,a6,a7])
  (λr=>∃S',RS.end (RS.seq r _)=.ok (.bl true) S') ⟨_,_,_,_,_,_,_,rfl⟩ ?_ ?_
 ·rintro i τ S1 hi ⟨a1,a2,a3,a4,a5,a6,a7,rfl⟩;left;obtain⟨S2,e2,K,k2⟩:=Gw (S:=S1) (ns:=ns) (k:=0+(i:Int)) () ();have kL:kX S2 (S2++[O.lst [.int 12,.int 40]]):=Kp.refl.lay;have n2:newL [.int 12,.int 40] S2=.ok (.ref S2.length) (S2++[O.lst [.int 12,.int 40]]):=iz (show 2<=16777216 by decide);obtain⟨d,S3,e3,d0,d1,hb3,k3⟩:=digit (m:=4) (K.kp kL λz=>z) ⋯ ⋯;have nb:S2.length≠S1.length:=by have:=K.lt;lia
  have gL:gm S3 S2.length=some [.int 12,.int 40]:=k3.lst _ _ nb gJ;obtain⟨G,hmo,m0,m1⟩:∃G:Int,j9 ([.int 12,.int 40]:ae) (if (d == 2)=true then 1 else 0)=some (.int G)/\0<=G/\G<=40:=by
   cases(d == 2)
   ·exact⟨12,rfl,by decide,by decide⟩
   ·exact⟨40,rfl,by decide,by decide⟩
  obtain⟨xs,L,S4,e4,g4,hx4,hx,hb4,k4,l4⟩:=yt (most:=G) hb3 m0 ();obtain⟨rs,qs,n,m,S5,e5,hP,hQ,k5,_,_,_⟩:=xD g4 ();obtain⟨pr,er⟩:=GG (xs:=xs) () hx;obtain⟨B,S6,e6,g6,k6,_⟩:=wm hP hQ pr;rw[er]at g6;have q1:=pH<|xQ g6<|(k5.trans k6).lst _ _ (λz=>z) g4;rw[a_ rfl,cF]at q1;have J:=hb4.kp (k5.trans k6) λz=>z;obtain⟨ls,U,S7,e7,g7,l5,lq,pw,C,k7,u7⟩:=yl J;have bU:U≠S1.length:=by have:=J.lt;lia
  obtain⟨t,ts,P,S8,e8,tP,taP,bP,lP,hb8,k8,f8⟩:=DC C g7 bU l5 lq pw;obtain⟨s0,s1⟩:=BF l5 lq;obtain⟨N,hN⟩:∃N:Nat,ls.sum=(N:Int):=⟨ls.sum.toNat,()⟩;obtain⟨u,us,Q,S9,e9,tQ,taQ,lQ,pQ,hb9,k9⟩:=BI hb8 (k8.lst _ _ bU g7) bU l5 lq pw () s0;rw[hN]at pQ;have Y:Pr P Q N:=⟨taP,taQ,bP,Ce<|by rw[lP,lQ],(),pQ⟩;have W:=tP.kp k9 (λr hr z=>by have:=f8 r hr;have:=C.lt;lia);obtain⟨V,S10,e10,Z,k10,_⟩:=wm W tQ Y;have rl:(qa P Q N).length<=100:=by
   show(Sy.qO _ N P).length<=100;rw[rC];lia
  obtain⟨rs2,qs2,n2',m2',g,e11,f,j,k11,_,_,_⟩:=xD Z rl;rw[FW Y]at f j;have F:=k10.trans k11;have q2:qN true (.tup [.ref n2',.ref m2']) (.tup [.ref t,.ref u]) g=.ok (.bl false) g:=pH<|JX f j (W.nB F)<|tQ.nB F;unfold zW;dsimp[gT,bools,e2,n2,e3,gL,hmo,e4,e5,jz<|show([_,_]:ae).length=2 from rfl,e6,q1,e7,e8,e9,e10,e11,uJ<|show([_,_]:ae).length<=16777216 by simp,q2];exact⟨_,_,rfl,_,_,_,_,_,_,_,rfl⟩
 ·rintro τ S1 ⟨a1,a2,a3,a4,a5,a6,a7,rfl⟩;dsimp[gT,bools];exact⟨_,rfl⟩
end K58
namespace K58
open PySem L2 Am
def all_mk{l:PySem.W.OpenLaw}{w:af}{K:aq}{h:ak}{mg:Str->be}{fa:aj}(X:K.In h)(G:h.Ns mainGlobals mg)(hfa:mg "law" = some (.ref fa))
  (a1:Df K "is_whole" pL)
  (a2:Df K "is_letter" nN)
  (a3:Df K "is_letters" m8)
  (a4:Df K "is_table_row" kW)
  (a5:Df K "fits_under" mO)
  (a6:Df K "is_table" pI)
  (a7:Df K "copied" sq)
  (a8:Df K "shape" uY)
  (a9:Df K "is_pair_of_tables" jj)
  (a10:Df K "last_smaller" kJ)
  (a11:Df K "take_out" pe)
  (a12:Df K "row_back" o8)
  (a13:Df K "_law_bag" qA)
  (a14:Df K "_law_digit" nI)
  (a15:Df K "_law_letters" lR)
  (a16:Df K "_law_put" qI)
  (a17:Df K "_law_tables" mY)
  (a18:Df K "_law_is_rows" lS)
  (a19:Df K "_law_lengths" lK)
  (a20:Df K "_law_first" nK)
  (a21:Df K "_law_second" mS)
  (a22:Df K "_law_copy" oX)
  (a23:Df K "_law_back" oQ)
  (a24:Df K "law" E5)
  (O6:PySem.W.nsIn K mainGlobals "isinstance" = some none)
  (O7:PySem.W.nsIn K mainGlobals "bool" = some none)
  (O8:PySem.W.nsIn K mainGlobals "int" = some none)
  (O9:PySem.W.nsIn K mainGlobals "all" = some none)
  (O_:PySem.W.nsIn K mainGlobals "list" = some none)
  (Pa:PySem.W.nsIn K mainGlobals "sorted" = some none)
  (Pb:PySem.W.nsIn K mainGlobals "len" = some none)
  (Pc:PySem.W.nsIn K mainGlobals "zip" = some none)
  (Pd:PySem.W.nsIn K mainGlobals "range" = some none)
  (Pe:PySem.W.nsIn K mainGlobals "enumerate" = some none)
  (Pf:PySem.W.nsIn K mainGlobals "max" = some none)
  (Pg:PySem.W.nsIn K mainGlobals "sum" = some none)
  (Ph:PySem.W.nsIn K mainGlobals "min" = some none)
  {O4:Tok} (Pj:PySem.W.nsIn K mainGlobals "GREATEST_LETTER" = some (some<|.int 1000000000 O4))
  {O5:Tok} (Pk:PySem.W.nsIn K mainGlobals "MOST_LETTERS" = some (some<|.int 40 O5))
  : ∃fd:FuncData,(∀(s:aA) (v:aa),BindsTo s fd ⟨[v],[]⟩ [("_law_script",v)])/\∀base:ak,K.In base->base.Ns mainGlobals mg->FnOk l.prog w K mg base nU 9 fa fd ["_law_script"] (pq K 1 tD):=by
 obtain⟨f,fd,a,F⟩:=a24;have e:=hfa.symm.trans (fS X G a)
 cases e
 have z:=bQ X G O6;have L:=bQ X G O7;have B:=bQ X G O8;have m:=bQ X G O9;have j:=bQ X G O_;have J:=bQ X G Pa;have d:=bQ X G Pb;have Z:=bQ X G Pc;have g:=bQ X G Pd;have OQ:=bQ X G Pe;have C:=bQ X G Pf;have P:=bQ X G Pg;have OY:=bQ X G Ph;have OG:∃t,mg "GREATEST_LETTER" = some (.int 1000000000 t):=⟨O4,fS X G Pj⟩;have OO:∃t,mg "MOST_LETTERS" = some (.int 40 t):=⟨O5,fS X G Pk⟩;refine⟨fd,λs v=>(by obtain⟨_,_,_,_,_,_,_,_,_,rfl,_,_⟩:=F.ex;exact .of_eq rfl),λbase _ _=>?_⟩;have E:En l.prog w K mg base:=⟨h,X,G⟩;have U:=a1.kA E (λF=>wR F z L B)<|FH λ_ _ _ _ _ _ _=>rfl;have M:=a2.kA E (λF=>vG F OG U)<|FH λ_ _ _ _ _ _ _=>rfl;have OJ:=a3.kA E (λF=>tB F m z j M)<|FH λ_ _ _ _ _ _ _=>rfl;have OM:=a4.kA E (λF=>rA F J d OJ)<|FH λ_ _ _ _ _ _ _=>rfl;have ON:=a5.kA E (λF=>sU F m Z d)<|BC λ_ _ _ _ _ _ _ _=>rfl;have O:=a6.kA E (λF=>w4 F m z j g d OM ON)<|FH λ_ _ _ _ _ _ _=>rfl;have OT:=a7.kA E (λF=>Bx F j)<|FH λ_ _ _ _ _ _ _=>rfl;have Y:=a8.kA E (λF=>FA F d)<|FH λ_ _ _ _ _ _ _=>rfl;have OS:=a9.kA E (λF=>nS F J j g d OO Y O)<|BC λ_ _ _ _ _ _ _ _=>rfl;have N:=a10.kA E (λF=>qZ F d)<|BC λ_ _ _ _ _ _ _ _=>rfl;have OU:=a11.kA E (λF=>xR F g N)<|BC λ_ _ _ _ _ _ _ _=>rfl;have OD:=a12.kA E (λF=>xA F OQ g d OS OT OU)<|BC λ_ _ _ _ _ _ _ _=>rfl;have OZ:=a13.kA E (λF=>ye F d)<|BC λ_ _ _ _ _ _ _ _=>rfl;have k:=a14.kA E (λF=>vf F)<|BC λ_ _ _ _ _ _ _ _=>rfl;have O0:=a15.kA E (λF=>sC F g k)<|BC λ_ _ _ _ _ _ _ _=>rfl;have OV:=a16.kA E (λF=>yC F j g d)<|BC λ_ _ _ _ _ _ _ _=>rfl;have OE:=a17.kA E (λF=>sZ F g d OV)<|FH λ_ _ _ _ _ _ _=>rfl;have OX:=a18.kA E (λF=>sf F z j m L B)<|BC λ_ _ _ _ _ _ _ _=>rfl;have O1:=a19.kA E (λF=>sE F g k)<|FH λ_ _ _ _ _ _ _=>rfl;have O2:=a20.kA E (λF=>vd F g d C k)<|BC λ_ _ _ _ _ _ _ _=>rfl;have O3:=a21.kA E (λF=>sV F g P d k)<|BC λ_ _ _ _ _ _ _ _=>rfl;have V:=a22.kA E (λF=>wu F j)<|FH λ_ _ _ _ _ _ _=>rfl;have OF:=a23.kA E (λF=>vQ F j V OD OX)<|BC λ_ _ _ _ _ _ _ _=>rfl;exact I0 F g C OY d B OZ O0 k OE OF O1 O2 O3
def walk{l:PySem.W.OpenLaw}{q:ah}{XP:(Str->be)->ak->Prop}{YP:af->ak->Prop}{d:DefRec}{K:Params->aq}(hn:l.most=some 63)(hdf:d.params.defaults=[])
  (hY:∀(w:af) (h:ak),YP w h->(K w.params).In h)
  (F:∀(w:af) (mg:Str->be) (fa:aj) (h:ak),(K w.params).In h->h.Ns mainGlobals mg->mg d.name=some (.ref fa) ->
   ∃fd:FuncData,(∀(s:aA) (u:aa),BindsTo s fd ⟨[u],[]⟩ [("_law_script",u)])/\∀base:ak,(K w.params).In base->base.Ns mainGlobals mg->FnOk l.prog w (K w.params) mg base nU 9 fa fd ["_law_script"] (pq (K w.params) 1 tD)) :
  PySem.W.WalkO q loose XP YP l.row.toRowW d [] (λf vs=>PySem.call f vs):=
 L2.FL (n:=63) (k:=9) (x := "_law_script") (CX:=λ_=>nU) (sp:=λw=>pq (K w.params) 1 tD) hn ⋯ hdf ⟨rfl,by decide,by decide⟩ hY F (λ_ H a t j m g=>BQ m g<|Kl t j) λ_ _ _ _ _ z=>z
end K58
open PySem PySem.W PyProof.Rows
namespace PySem.W.Fast
def tw15176656339462939237:=Nat
def tw10105705805708740480:=Nat
def tw8648526369098636064:=Nat
def tw15688066711634692322:=Nat
def tw9625484431188267008:=Nat
def tw4926715874115849778:=Nat
def tw8094988592424283991:=Nat
def tw10222403485844388682:=Nat
def tw959618022174338868:=Nat
def tw468462665389474148:=Nat
def tw13580132856309368337:=Nat
def tw4363943504602701173:=Nat
def tw2514344901022758244:=Nat
def tw17863323357410507345:=Nat
def tw17616055306280777753:=Nat
def tw2513679813366279939:=Nat
def tw7670347932422733488:=Nat
def tw11338683328433474755:=Nat
def tw2713200612911509707:=Nat
def tw1607447990380718276:=Nat
def tw2149904359137630852:=Nat
def tw17988671790557322626:=Nat
def tw7730097863416973332:=Nat
def tw13861686252252081827:=Nat
def tw18403604952194215812:=Nat
def tw3476541839420873551:=Nat
def tw14269039582071829610:=Nat
def tw962195950218280370:=Nat
def tw9565352308286330558:=Nat
def tw220295039517680590:=Nat
def tw12810113613947230217:=Nat
def tw5186146186261316814:=Nat
def tw808734383196157604:=Nat
def tw8945031855573532918:=Nat
def tw9042661745866576594:=Nat
def tw17210799115039295570:=Nat
def tw4015511091739178293:=Nat
def tw5972839893904350769:=Nat
def tw5823668327448725514:=Nat
def tw5908630050251417034:=Nat
def tw8223109802472041320:=Nat
def tw13925774621730816566:=Nat
def tw2885339723113818366:=Nat
def tw8882081284577391593:=Nat
def tw6912691012777420474:=Nat
def tw2531172207206564860:=Nat
def tw15848347090794024652:=Nat
def tw3183609424455734371:=Nat
def tw6120620321486151235:=Nat
def tw6251923198743084551:=Nat
def tw8805486794626746942:=Nat
def tw12685517876200254420:=Nat
def tw5331422227875810444:=Nat
def tw12572555170775843975:=Nat
def tw16861520048579515760:=Nat
def tw18250744724347682584:=Nat
def tw1216622078510013872:=Nat
def tw13696542277539532072:=Nat
def tw6296345386648810990:=Nat
def tw861621285824738547:=Nat
def tw15927965692069936513:=Nat
def tw14577549630671501656:=Nat
def tw3393128226101241816:=Nat
def tw2732854021936052534:=Nat
def tw433745986214145920:=Nat
def tw12307223811456045478:=Nat
def tw14681612748373731553:=Nat
def tw5521307640375926484:=Nat
def tw3166431199031960443:=Nat
def tw17723384673437133738:=Nat
def tw17331062130135891769:=Nat
def tw11709582450614868839:=Nat
def tw5527508391732154680:=Nat
def tw15667134323257475384:=Nat
def tw6726116587613634702:=Nat
def tw13655016185200613807:=Nat
def tw15573969922739785022:=Nat
def tw2243713584623736867:=Nat
def tw4966228747958362994:=Nat
def tw4979954884939473149:=Nat
def tw14921648385741981423:=Nat
def tw18237297448453557323:=Nat
def tw7189249167529395748:=Nat
def tw10546860633479804408:=Nat
def tw14422962557914752301:=Nat
def tw111819611877396523:=Nat
def tw12555063982739615011:=Nat
def tw6857497969156903938:=Nat
def tw15752763264594454386:=Nat
def tw18411729795857179957:=Nat
def tw7264980789955226695:=Nat
def tw4388170020041433648:=Nat
def tw10669454739710998568:=Nat
def tw983913108557915848:=Nat
def tw13630732783499559457:=Nat
def tw9906062892968199006:=Nat
def tw16469254216131748017:=Nat
def tw118083694462895072:=Nat
def tw11910521092234378572:=Nat
def tw13165144515834565125:=Nat
def tw9751410353958644464:=Nat
def tw13374758821670970401:=Nat
def tw4100090079153826685:=Nat
def tw8407389013084561318:=Nat
def tw12159709639151347933:=Nat
def tw1226147098775493203:=Nat
def tw4580122041139902770:=Nat
def tw11159470927507716357:=Nat
def tw71087309717748941:=Nat
def tw14071747033209921927:=Nat
def tw5208706173869712812:=Nat
def tw12179031588720211200:=Nat
def tw15789134851237530661:=Nat
def tw9318007139837651045:=Nat
def tw9701973488476492261:=Nat
def tw1498837433803181244:=Nat
def tw16525006015326289640:=Nat
def tw17398698181788173072:=Nat
def tw1807244350446593412:=Nat
def tw15121757469546470317:=Nat
def tw7603542481724884223:=Nat
def tw4807321164764142199:=Nat
def tw6398522522069971609:=Nat
def tw9455607384719329779:=Nat
def tw14830220232387096857:=Nat
def tw11470794821472868887:=Nat
def tw1174035329104495430:=Nat
def tw491939757235525301:=Nat
def tw12576815849975990507:=Nat
def tw10857265133668696183:=Nat
def tw5605360512871801746:=Nat
def tw9048211645567030805:=Nat
def tw7456098934164376851:=Nat
def tw9144818766419939390:=Nat
def tw6067657531169069786:=Nat
def tw4690146226722651281:=Nat
def tw9544197958698350159:=Nat
def tw10116623360321589742:=Nat
def tw10660365805559121119:=Nat
def tw12098821340201921035:=Nat
end PySem.W.Fast
set_option maxRecDepth 100000 in
set_option maxHeartbeats 0 in
theorem PySem.Challenge.cw_undercells_k58_rows_back_holds : PySem.Challenge.rw_undercells_k58_rows_back.Holds := by
 w_on;o_law;k_head;(case hw=>w_witness2)
 k_fill
 refine K58.walk (l:=PySem.Challenge.rw_undercells_k58_rows_back) rfl rfl (fun w h Y=>PySem.W.kIn_of Y) ?F
 case F=>
  intro w mg fa h KX G hmg;refine' K58.all_mk KX G hmg (.of ?_ ?_ ?_ ?_) (.of ?_ ?_ ?_ ?_) (.of ?_ ?_ ?_ ?_) (.of ?_ ?_ ?_ ?_) (.of ?_ ?_ ?_ ?_) (.of ?_ ?_ ?_ ?_) (.of ?_ ?_ ?_ ?_) (.of ?_ ?_ ?_ ?_) (.of ?_ ?_ ?_ ?_) (.of ?_ ?_ ?_ ?_) (.of ?_ ?_ ?_ ?_) (.of ?_ ?_ ?_ ?_) (.of ?_ ?_ ?_ ?_) (.of ?_ ?_ ?_ ?_) (.of ?_ ?_ ?_ ?_) (.of ?_ ?_ ?_ ?_) (.of ?_ ?_ ?_ ?_) (.of ?_ ?_ ?_ ?_) (.of ?_ ?_ ?_ ?_) (.of ?_ ?_ ?_ ?_) (.of ?_ ?_ ?_ ?_) (.of ?_ ?_ ?_ ?_) (.of ?_ ?_ ?_ ?_) (.of ?_ ?_ ?_ ?_) ?_ ?_ ?_ ?_ ?_ ?_ ?_ ?_ ?_ ?_ ?_ ?_ ?_ ?_ ?_
  any_goals first|k_is|kernel_rfl
