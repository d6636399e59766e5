import PyProof.Rows.All
import Wide.All
import OpenK.AllK
import Wide.FinOn
import Lean
import PyProof.EqAt
import PyProof.EqKinds
import PyProof.TupleCall
import PySem.Challenge.RW_undercells_k59_no_two_tables
set_option autoImplicit true
set_option relaxedAutoImplicit true
set_option Elab.async false
set_option linter.all false
set_option maxRecDepth 100000
set_option compiler.extract_closed false
set_option maxHeartbeats 4000000
local macro_rules|`(command|abbrev $n:declId $s:optDeclSig $v:declVal)=>`(command|noncomputable def $n:declId $s:optDeclSig $v:declVal)|`(command|meta abbrev $n:declId $s:optDeclSig $v:declVal)=>`(command|@[reducible]noncomputable def $n:declId $s:optDeclSig $v:declVal)
local macro_rules|`(∅)=>`(by decide +kernel)
local macro_rules|`(⋯)=>`(by decide)
local macro_rules|`(tactic|dsimp[$l,*])=>`(tactic|simp only[$l,*])|`(tactic|dsimp[$l,*]$o:location)=>`(tactic|simp only[$l,*]$o:location)
local macro_rules(kind:=Lean.Parser.Term.structInst)|`({})=>`({cls:=.type "list",data:=.seq ([]:List PySem.Value).toArray})
set_option hygiene false
local macro_rules|`(tactic|room)=>`(tactic|obtain⟨ρ,S,τ,R,r,h⟩:=h9)
local macro_rules|`(tactic|z_go)=>`(tactic|intro X hP hw hK hc i pins s σ H E I hf st hg)
local macro_rules|`(tactic|x_go)=>`(tactic|exact⟨x,y,S2,by dsimp[i6,bools,Int.reduceBEq,↓e2],ux,uy,bd,tx,ty,hb2,k1.trans k2⟩)
local macro_rules|`(tactic|w_up)=>`(tactic|obtain⟨f0,f1,f2,f3,f4,f5⟩:=hf it (by simp))
local macro_rules|`(tactic|fin2)=>`(tactic|intro pins s σ H Q I h)
local macro_rules|`(tactic|k_ne)=>`(tactic|obtain⟨ρ,S,a,b,R,va,vb,h⟩:=h9)
local macro_rules|`(tactic|kt_k)=>`(tactic|exact Kp.refl.lay)
local macro_rules|`(tactic|kd_p)=>`(tactic|have hfree:∀y∈scope.names,y.2=.free->∃c,X.env.cells.lookup y.1=some c:=λy hy e=>I.ok.has _ (S.fr y hy e))
local macro_rules|`(tactic|gn_on)=>`(tactic|obtain⟨xs,hn,h⟩:=iV h)
local macro_rules|`(tactic|gp_on)=>`(tactic|intro pins s σ H xs us Q I r h)
local macro_rules|`(tactic|kj_on)=>`(tactic|refine I3.BA (ch:=fp) I6.os ⟨λb o e n hb hx=>?_,λb o e n hb hx=>?_,λb o e n hx=>?_,λb o e hx=>?_,u6.tups,u6.frzs,u6.tbls⟩ ?_ I6.bare ?_)
local macro_rules|`(tactic|kcf_m)=>`(tactic|exact⟨M,S6,by dsimp[i6,bools,Int.reduceBEq,↓e6],o6,t6,hb6,kk k6⟩)
local macro_rules|`(tactic|kcj_m)=>`(tactic|refine⟨ρ3,S3,τ3,x,τ4,S4,R4,r3.ext e4,v4,hg4,λρ5 H5 σ5 e5 R5 r5=>⟨ρ5,S4,τ4,b,S5,R5,r5,ht5,λρ6 H6 e6 R6=>?_⟩⟩)
local macro_rules|`(tactic|kpc_g)=>`(tactic|refine⟨m',hm,i+1,σ8,H10,I10.lI,T.keep _ _ _ st7 λb hb o e=>(I10.pin (b,o) (aU _ (aU _ (jK hb e)))).1,λb hb=>?_,w10⟩)
local macro_rules|`(tactic|kpf_c)=>`(tactic|obtain⟨w,rfl,ρ,S,x,R,hv,h⟩:=N_ h0)
local macro_rules|`(tactic|ksr_p)=>`(tactic|intro pins s σ H x y v u Q I rx ry h)
local macro_rules|`(tactic|kst_p)=>`(tactic|intro pins s σ H D I h)
local macro_rules|`(tactic|kln_w)=>`(tactic|obtain⟨u,rfl,rx⟩:=vals1 r)
local macro_rules|`(tactic|kl_no)=>`(tactic|exact I1.yk (aL _) (I1.hok.fresh (aL _)))
local macro_rules|`(tactic|mg_lt)=>`(tactic|refine aI (ki h6 λ_ s7 ⟨x,H7,I7,r7,y7,st7,fr7⟩=>?_))
local macro_rules|`(tactic|cb_eq)=>`(tactic|refine⟨hn b hb,(ok.exf b hb).1,ok.exfs b hb,.inl hb,λx c e=>(ok.exf b hb).2 x c e,λp hp=>nomatch hp⟩)
set_option hygiene true
local macro_rules|`(())=>`(by lia)
@[reducible]def ae:=List Int
@[reducible]def ag:=List Nat
@[reducible]def am:=List PySem.Str
@[reducible]def ar:=List PySem.Value
@[reducible]def ba:=List PySem.Addr
@[reducible]def be:=Option PySem.Value
@[reducible]def bi:=Option Int
@[reducible]def bj:=Option Bool
@[reducible]def bo:=Option Nat
@[reducible]def bt:=List<|PySem.Addr×PySem.Obj
def aF:=@List.getElem?_eq_getElem
def aG:=@List.getD_eq_getElem?_getD
def aH:=@List.length_map
def aI:=@PySem.wpAny_bind
def aJ:=@List.getElem?_eq_some_iff
def aK:=@PySem.Heap.get?_push_of_some
def aL:=@Nat.le_refl
def aM:=@PySem.wpAny_pure
def aN:=@List.mem_cons_of_mem
def aO:=@List.length_append
def aP:=@List.size_toArray
def aQ:=@List.getElem?_map
def aR:=@Option.some.inj
def aS:=@PySem.Heap.lt_size
def aT:=@List.getElem?_append_left
def aU:=@List.mem_append_right
def aV:=@Option.map_eq_some_iff
def aW:=@List.mem_singleton
def aX:=@decide_eq_true
def aY:=@decide_eq_false
def aZ:=@List.length_set
def a_:=@List.mem_cons_self
def bf:=@if_pos
def bg:=@List.mem_of_getElem?
def bh:=@List.mem_cons
def br:=@Nat.ne_of_lt
def bu:=@if_neg
def bw:=@Option.bind_some
def bz:=@Bool.false_ne_true
def bA:=@List.mem_map
def bB:=@List.length_cons
def bC:=@PySem.Heap.get?_push_size
def bD:=@Option.bind_eq_some_iff
def bE:=@Bool.and_eq_true
def bF:=@List.forall_mem_cons
def bG:=@Nat.lt_succ_self
def bH:=@Nat.lt_of_lt_of_le
def bI:=@List.flatten_cons
def bJ:=@List.nodup_cons
def bK:=@List.getElem?_set_self
def bM:=@List.append_nil
def bN:=@List.getElem?_set_ne
def bO:=@Bool.and_false
def bP:=@List.map_cons
def bQ:=@Bool.not_false
def bR:=@PySem.W.mg_none_of
def bT:=@List.mem_append
def bU:=@Bool.not_true
def bV:=@PySem.wpAny_newObj_type
def bW:=@Bool.false_and
def bX:=@Nat.le_trans
def bY:=@List.map_map
def bZ:=@List.append_assoc
def b5:=@List.map_append
def b9:=@List.length_pos_iff
def b_:=@congrArg
def cg:=@List.length_take
def cj:=@Nat.zero_le
def cz:=@PySem.wpAny_standAt
def cA:=@List.length_drop
def cB:=@List.all_eq_true
def cC:=@List.mem_append_left
def cD:=@PySem.Heap.get?_update_other
def cE:=@PySem.wpAny_mono
def cF:=@PyProof.Rows.slot_tuple_getitem
def cG:=@PySem.mem_of_lookup
def cH:=@List.getElem_of_mem
def cI:=@PySem.W.kia_one
def cJ:=@List.set_eq_take_append_cons_drop
def cK:=@Nat.lt_irrefl
def cL:=@PySem.wpAny_holding
def cM:=@PySem.W.mg_of
def cN:=@List.mem_flatten
def cO:=@PySem.sizeLine_eq
def cP:=@List.filter_eq_self
def cQ:=@Ne.symm
def cR:=@PyProof.Rows.callWith_type1
def cS:=@of_decide_eq_true
def cT:=@Nat.sub_self
def cU:=@Nat.not_lt_zero
def cV:=@Bool.true_and
def cW:=@List.getElem_mem
def cX:=@List.mem_or_eq_of_mem_set
def cY:=@beq_self_eq_true
def cZ:=@List.mem_range
def c8:=@Nat.le_of_lt
def c9:=@List.getElem?_append_right
def c_:=@List.take_of_length_le
def dc:=@List.nodup_append
def dh:=@List.replicate_succ
def di:=@List.flatten_append
def dm:=@List.find?_cons
def dw:=@PySem.PassesOwn.never
def dz:=@List.drop_eq_getElem_cons
def dB:=@List.getElem?_eq_none
def dD:=@List.take_append_drop
def dF:=@PySem.F.slot_list_append
def dG:=@PySem.F.type_list_append
def dH:=@PySem.Heap.size_push
def dI:=@List.drop_zero
def dJ:=@PySem.W.hideAll_get
def dM:=@Array.length_toList
def dN:=@PySem.W.cellsFrom_some
def dO:=@List.map_nil
def dP:=@List.drop_of_length_le
def dQ:=@List.lookup_cons
def dR:=@List.prefix_refl
def dS:=@Bool.false_eq_true
def dU:=@PySem.Heap.get?_update_self
def dW:=@List.getElem?_eq_none_iff
def dX:=@List.pairwise_iff_getElem
def dY:=@PySem.wpAny_passesOwn
def dZ:=@Option.map_some
def d7:=@PySem.wpAny_truthy_bool
def d8:=@PySem.wpAny_field
def d9:=@Bool.eq_false_iff
def d_:=@decide_eq_true_eq
def ef:=@Nat.lt_or_ge
def eg:=@List.getElem?_set
def eo:=@Option.isSome_iff_exists
def eB:=@List.filterMap_cons
def eF:=@List.length_reverse
def eG:=@if_false
def eK:=@Nat.succ_le_succ
def eL:=@Option.getD_some
def eN:=@List.getElem?_cons_succ
def eO:=@List.perm_middle
def eS:=@PySem.W.of_hideAll
def eU:=@PySem.codeAny_mono
def eV:=@PySem.wpAny_Call_Name_kw
def eW:=@Int.emod_lt_of_pos
def eX:=@List.any_cons
def eY:=@List.length_dropLast
def eZ:=@List.range_eq_range'
def e_:=@PySem.Around.under_plainId
def ff:=@List.mem_iff_getElem
def fh:=@List.findIdx_getElem
def fj:=@List.mem_of_mem_drop
def fu:=@List.map_set
def fy:=@List.getLastD_eq_getLast?
def fB:=@List.getLast?_eq_getElem?
def fC:=@List.replicate_zero
def fD:=@List.getElem?_take_of_lt
def fE:=@PySem.F.args_tuple_add_2
def fF:=@PySem.wpAny_comprehension_free
def fG:=@PySem.wpAny_execs_nil
def fH:=@List.nil_append
def fJ:=@PySem.codeAny_builtin
def fK:=@List.filter_map
def fL:=@Int.emod_nonneg
def fM:=@List.mem_filterMap
def fN:=@List.prefix_append
def fO:=@PySem.F.entry_tuple_add
def fQ:=@PySem.wpAny_callSpecial?_slot
def fR:=@PySem.wpAny_pyIter_list
def fS:=@PySem.F.slot_tuple_add
def fU:=@if_true
def fV:=@List.reverse_cons
def fW:=@Nat.lt_succ_of_lt
def fX:=@List.pairwise_map
def fY:=@List.range_succ_eq_map
def fZ:=@List.Perm.refl
def f6:=@List.findIdx_le_length
def f_:=@List.not_of_lt_findIdx
def gc:=@Int.zero_add
def gf:=@List.eraseIdxIfInBounds_toArray
def gh:=@List.length_replicate
def gi:=@Array.getElem?_toList
def gj:=@List.set_getElem_self
def gk:=@Nat.add_sub_add_right
def gn:=@List.perm_append_comm
def gp:=@PySem.wpAny_call_entry
def gq:=@PySem.wpAny_rule
def gu:=@PySem.wpAny_isInstance
def gv:=@List.filter_cons
def gw:=@PySem.F.plain_sum_loop
def gx:=@Nat.succ_lt_succ
def gy:=@List.sum_cons
def gz:=@PySem.Sem.wp_pure
def gA:=@List.getLast?_eq_some_getLast
def gB:=@List.mem_of_mem_take
def gC:=@List.eq_nil_of_length_eq_zero
def gD:=@List.of_mem_zip
def gE:=@List.length_nil
def gF:=@List.range_succ
def gG:=@List.dropLast_concat_getLast
def gH:=@beq_eq_false_iff_ne
def gI:=@List.map_congr_left
def gJ:=@List.length_flatten
def gK:=@Nat.ne_of_gt
def gM:=@PySem.codeAny_loop
def gO:=@List.set_set
def gP:=@decide_false
def gQ:=@PySem.wpAny_call
def gR:=@PySem.W.callWith_K
def gS:=@PySem.Heap.IsSliceOf.new
def gT:=@PySem.call_meets
def gU:=@List.pairwise_cons
def gW:=@List.take_succ
def gX:=@List.nodup_iff_pairwise_ne
def gY:=@Nat.eq_zero_or_pos
def gZ:=@List.getElem?_drop
def g_:=@PySem.slot_list_getitem
def h_:=@PySem.wpAny_noted
def ie:=@decide_true
def ig:=@PySem.Paired.length
def ir:=@PySem.evalPart_none
def iu:=@PySem.wpAny_attempt
def iw:=@List.getElem_inj
def iy:=@beq_iff_eq
def iz:=@Int.le_antisymm
def iA:=@Bool.or_eq_true
def iB:=@Int.le_refl
@[reducible]def aa:=PySem.Value
@[reducible]def af:=PySem.World
@[reducible]def ah:=PySem.Program
@[reducible]def aj:=PySem.Addr
@[reducible]def ak:=PySem.Heap
@[reducible]def aq:=PySem.W.Frag
@[reducible]def au:=PySem.Around
@[reducible]def aA:=PySem.Shared
@[reducible]def aC:=PySem.Expr
@[reducible]def aE:=PySem.Stmt
def anI{a b:Prop}(h:a)(k:b):a/\b:=⟨h,k⟩
open Int (ediv_one)
open List (all_cons all_map map_drop take_nil)
open Nat (le_succ not_lt)
open Option (getD_none isSome_some)
namespace L2
open PySem PySem.Spec PyProof.Rows
meta abbrev Key:=Sum Int Str
abbrev yI:Key->aa->Bool
 | .inl k,v=>Value.isInt k v
 | .inr x,v=>Value.isStrOf x v
abbrev Tf (w:af):Key->Int
 | .inl k=>hashInt k
 | .inr x=>hashStr w x
def kD:∀{k:Key}{v:aa},yI k v=true->(∃i t,k=Sum.inl i/\v=Value.int i t)\/(∃x t,k=Sum.inr x/\v=Value.str x t)
 | .inl i,v,h=>by
  obtain⟨t,e⟩:=Value.isInt_shape (k:=i) (v:=v) h;exact .inl ⟨i,t,rfl,e⟩
 | .inr x,v,h=>by
  obtain⟨t,e⟩:=Value.isStrOf_shape (x:=x) (v:=v) h;exact .inr ⟨x,t,rfl,e⟩
def GS(i:Int)(t:Tok):yI (.inl i) (.int i t)=true:=by simp[yI,Value.isInt]
def Gn(x:Str)(t:Tok):yI (.inr x) (.str x t)=true:=by simp[yI,Value.isStrOf]
def Py(a b:Int):decide ((Sum.inl a:Key)=Sum.inl b)=(a == b):=by
 by_cases e:a=b
 ·subst e;simp
 ·have h:¬(Sum.inl a:Key)=Sum.inl b:=λq=>e<|Sum.inl.inj q;rw[aY h];exact(gH.mpr e).symm
def OM(a b:Str):decide ((Sum.inr a:Key)=Sum.inr b)=decide (a=b):=by
 by_cases e:a=b
 ·subst e;simp
 ·have h:¬(Sum.inr a:Key)=Sum.inr b:=λq=>e<|Sum.inr.inj q;rw[aY h,aY e]
def Qm(a:Int)(b:Str):decide ((Sum.inl a:Key)=Sum.inr b)=false:=aY λq=>nomatch q
def OD(a:Str)(b:Int):decide ((Sum.inr a:Key)=Sum.inl b)=false:=aY λq=>nomatch q
abbrev kO (prog:ah)(w:af):PySem.KeyKind prog w Key where
 is:=yI
 hash:=Tf w
 inj:=λv a b f hb=>by
  rcases kD f with⟨i,t,rfl,rfl⟩|⟨x,t,rfl,rfl⟩
  ·rcases kD hb with⟨j,u,rfl,e⟩|⟨y,u,rfl,e⟩
   ·injection e with e1 _;rw[e1]
   ·exact nomatch e
  ·rcases kD hb with⟨j,u,rfl,e⟩|⟨y,u,rfl,e⟩
   ·exact nomatch e
   ·injection e with e1 _;rw[e1]
 byValue:=λk v h=>by
  rcases kD h with⟨i,t,rfl,rfl⟩|⟨x,t,rfl,rfl⟩<;>rfl
 pyHash:=λhv h=>by
  rcases kD hv with⟨i,t,rfl,rfl⟩|⟨x,t,rfl,rfl⟩
  ·exact wpAny_pyHash_int h
  ·exact wpAny_pyHash_str h
 eqBool:=λd hv h=>by
  rcases kD d with⟨i,t,rfl,rfl⟩|⟨x,t,rfl,rfl⟩
  ·rcases kD hv with⟨j,u,rfl,rfl⟩|⟨y,u,rfl,rfl⟩
   ·rw[Py]at h;exact wpAny_eqBool_int h
   ·rw[Qm]at h;exact SeqAt.EqAt.int_str i t y u _ _ _ _ h
  ·rcases kD hv with⟨j,u,rfl,rfl⟩|⟨y,u,rfl,rfl⟩
   ·rw[OD]at h;exact SeqAt.EqAt.str_int x t j u _ _ _ _ h
   ·rw[OM]at h;exact wpAny_eqBool_str h
 «strs»:=λk x t v h=>by
  rcases kD h with⟨i,u,rfl,e⟩|⟨y,u,rfl,e⟩
  ·exact nomatch e
  ·injection e with e1 _
   subst e1
   cases v<;>rfl
def Bv(prog:ah)(w:af)(i:Int)(t:Tok):(kO prog w).is (.inl i) (.int i t)=true:=GS i t
def Ce(prog:ah)(w:af)(x:Str)(t:Tok):(kO prog w).is (.inr x) (.str x t)=true:=Gn x t
inductive V where
 | jC|bl (b:Bool)|int (i:Int)|str (x:Str)|byt (b:Array UInt8)|flt (b:UInt64)|ref (a:aj)|ty (n:String)
 deriving DecidableEq
abbrev RelV:V->aa->Prop
 | .jC,u=>u=Value.none
 | .bl b,u=>u=Value.bool b
 | .int i,u=>∃t,u=Value.int i t
 | .str x,u=>∃t,u=Value.str x t
 | .byt b,u=>∃t,u=Value.bytes b t
 | .flt b,u=>∃t,u=Value.float b t
 | .ref a,u=>u=Value.ref a
 | .ty n,u=>u=Value.type n
meta abbrev Vals:List V->ar->Prop:=Paired RelV
def Vals.length{xs:List V}{us:ar}(r:Vals xs us):xs.length=us.length:=ig r
theorem Vals.get:∀{xs:List V}{us:ar}{i:Nat}{x:V},Vals xs us->xs[i]?=some x->∃u,us[i]?=some u/\RelV x u
 | _,_,_,_,.nil,e=>by simp at e
 | _,_,0,_,.cons r _,e=>by simp at e;subst e;exact⟨_,rfl,r⟩
 | _,_,i+1,x,.cons _ t,e=>by
  obtain⟨u,h1,d⟩:=Vals.get (i:=i) (x:=x) t (by simpa using e);exact⟨u,by simpa using h1,d⟩
theorem Vals.set{x:V}(r:RelV x u):∀{xs:List V}{us:ar}(i:Nat),Vals xs us->Vals (xs.set i x) (us.set i u)
 | _,_,_,.nil=>.nil
 | _,_,0,.cons _ t=>.cons r t
 | _,_,i+1,.cons q t=>.cons q<|Vals.set r i t
theorem Vals.append:∀{xs ys:List V}{us ws:ar},Vals xs us->Vals ys ws->Vals (xs++ys) (us++ws)
 | _,_,_,_,.nil,s=>s
 | _,_,_,_,.cons r t,s=>.cons r<|Vals.append t s
theorem Vals.take:∀{xs:List V}{us:ar}(n:Nat),Vals xs us->Vals (xs.take n) (us.take n)
 | _,_,0,_=>.nil
 | _,_,_+1,.nil=>.nil
 | _,_,n+1,.cons r t=>.cons r<|Vals.take n t
theorem Vals.drop:∀{xs:List V}{us:ar}(n:Nat),Vals xs us->Vals (xs.drop n) (us.drop n)
 | _,_,0,r=>r
 | _,_,_+1,.nil=>.nil
 | _,_,n+1,.cons _ t=>Vals.drop n t
abbrev xw:Option V->be->Prop
 | some v,some u=>RelV v u
 | none,none=>True
 | _,_=>False
abbrev KV {κ:Type}:List (κ×V)->List (κ×aa)->Prop:=Paired λ(p:κ×V) (q:κ×aa)=>p.1=q.1/\RelV p.2 q.2
abbrev kV:Key->V
 | .inl i=>.int i
 | .inr x=>.str x
inductive HO where
 | lst (xs:List V)
 | tup (xs:List V)
 | dK (kvs:List<|Key×V)|dT (kvs:List<|List Key×V)
 | set (S:Int->Bool) (n:Nat)
 | ins (C dx:aj) (fs:List<|Str×V)
 | own (x:aj)
 | xd (fs:List<|Str×V)
 | met (f x:aj)
 | rng (lo hi:Int)
 | frz (o:Obj) (u:HO)
 | tbl (ps:Array aa)
 | ext (φ:ak->Prop)
meta abbrev Hp:=aj->Option HO
abbrev upd (H:Hp)(a:aj)(o:HO):Hp:=λb=>if b=a then some o else H b
def jy{H:Hp}{a:aj}:upd H a o a=some o:=by unfold upd;rw[bf rfl]
def iS{H:Hp}{a:aj}(h:b≠a):upd H a o b=H b:=by unfold upd;rw[bu h]
def RP{H:Hp}{a:aj}(h:H a=some o)(h':H b=some u)(d:o≠u):a≠b:=by
 intro e;subst e;rw[h]at h';exact d<|aR h'
def iZ{H:Hp}{a:aj}(h:H a=some o)(h':H b=none):a≠b:=by
 intro e;subst e;rw[h]at h';cases h'
abbrev mL (h:ak)(a:aj)(items:Array aa):Prop:=∃o,h.get? a=some o/\o.cls=.type "tuple" /\ o.dict=none/\∃n,o.data=.seq items n
def mL.tup{a:aj}:mL h a items->IsTup h a items:=λ⟨o,e,c,_,n,d⟩=>⟨o,e,c,n,d⟩
def mL.new(h:ak)(items:Array aa):mL (h.push { cls:=.type "tuple",data:=.seq items }) h.objs.size items:=⟨_,bC _ rfl,rfl,rfl,_,rfl⟩
def mL.lt{h:ak}{a:aj}(x:mL h a items):a<h.objs.size:=let⟨_,ho,_⟩:=x;aS ho
section
variable (P:ah) (w:af)
abbrev j6 (H:Hp)(h:ak)(a:aj):HO->Prop
 | .lst xs=>xs.length<=sizeLine/\∃(d:ar) (n:Nat),Vals xs d/\h.get? a=some { cls:=.type "list",data:=.seq d.toArray n }
 | .tup xs=>xs.length<=sizeLine/\∃d:ar,Vals xs d/\mL h a d.toArray
 | .dK kvs=>kvs.length<=sizeLine/\(a == sysModules)=false/\∃vs,KV kvs vs/\h.DictOf (kO P w) a vs
 | .dT kvs=>kvs.length<=sizeLine/\(a == sysModules)=false/\∃xs:List<|List Key×aj×aa,
   Paired (λ(p:List Key×V) (q:List Key×aj×aa)=>p.1=q.1/\H q.2.1=some (.tup<|p.1.map kV)/\RelV p.2 q.2.2) kvs xs /\
   ∃o es m,h.get? a=some o/\o.ExactDict/\o.data=.dict es m/\es.toList=xs.map (entryOfKey<|tupleKind<|kO P w)/\(xs.map (·.1)).Nodup
 | .set S n=>h.SetOf (intKind P w) a S n
 | .ins C dx fs=>H dx=some (.own a)/\fs.length<=1000/\dx≠a/\h.get? a=some (PySem.W.instObj C dx) /\
   ∃g,h.Ns1 dx g/\(∀f,xw (fs.lookup f)<|g f)/\PySem.Within g (fs.map (·.1))
 | .own _=>∃o,h.get? a=some o
 | .xd fs=>∃g,h.Ns1 a g/\∀f,xw (fs.lookup f) (g f)
 | .rng lo hi=>∃t u v,h.get? a=some { cls:=.type "range",data:=.fields #[.int lo t,.int hi u,.int 1 v]}
 | .frz o u=>h.get? a=some o/\j6 H h a u
 | .tbl ps=>h.get? a=some { cls:=.none,data:=.fields ps }
 | .met f x=>h.get? a=some (PySem.W.methodObj (.ref f)<|.ref x)
 | .ext j=>j h/\(∃o,h.get? a=some o)/\∀h1 k:ak,j h1->(∀o,h1.get? a=some o->k.get? a=some o)->j k
abbrev sH (H:Hp)(h:ak):Prop:=∀a o,H a=some o->j6 P w H h a o
end
section
variable {P:ah}{w:af}{H H':Hp}{h h':ak}{a:aj}{o:HO}
def j6.lt(x:j6 P w H h a o):a<h.objs.size:=by
 cases o with
 | lst xs=>obtain⟨_,_,_,_,e⟩:=x;exact aS e
 | tup xs=>obtain⟨_,_,_,p⟩:=x;exact mL.lt p
 | dK kvs=>obtain⟨_,_,_,_,o,_,_,e,_⟩:=x;exact aS e
 | dT kvs=>obtain⟨_,_,_,_,o,_,_,e,_⟩:=x;exact aS e
 | set S n=>obtain⟨o,_,_,_,e,_⟩:=x;exact aS e
 | ins C dx fs=>obtain⟨_,_,_,e,_⟩:=x;exact aS e
 | own y=>obtain⟨_,e⟩:=x;exact aS e
 | xd fs=>obtain⟨_,⟨_,_,_,e,_⟩,_⟩:=x;exact aS e
 | rng lo hi=>obtain⟨_,_,_,e⟩:=x;exact aS e
 | frz ob u=>obtain⟨e,_⟩:=x;exact aS e
 | tbl ps=>exact aS (show h.get? a=some _ from x)
 | met f y=>exact aS (show h.get? a=some _ from x)
 | ext d=>obtain⟨_,⟨_,e⟩,_⟩:=x;exact aS e
theorem Paired.Ph{α β:Type}{F G:α->β->Prop}:∀{l₁:List α}{l₂:List β},Paired F l₁ l₂->(∀a b,F a b->G a b)->Paired G l₁ l₂
 | _,_,.nil,_=>.nil
 | _,_,.cons r t,f=>.cons (f _ _ r)<|Paired.Ph t f
def j6.stay(x:j6 P w H h a o)(k:∀b u,(b=a\/H b=some (.own a))->h.get? b=some u->h'.get? b=some u)
  (ho:∀b,H b=some (.own a)->H' b=some (.own a)) (ht:∀b xs,H b=some (.tup xs)->H' b=some (.tup xs)):j6 P w H' h' a o:=by
 induction o with
 | lst xs=>obtain⟨z,j,n,r,e⟩:=x;exact⟨z,j,n,r,k _ _ (.inl rfl) e⟩
 | tup xs=>obtain⟨z,j,r,ob,e,c⟩:=x;exact⟨z,j,r,ob,k _ _ (.inl rfl) e,c⟩
 | dK kvs=>obtain⟨z,y,vs,r,ob,es,g,e,c⟩:=x;exact⟨z,y,vs,r,ob,es,g,k _ _ (.inl rfl) e,c⟩
 | dT kvs=>
  obtain⟨z,y,xs,r,ob,es,g,e,c⟩:=x;exact⟨z,y,xs,Paired.Ph r λp q z=>⟨z.1,ht _ _ z.2.1,z.2.2⟩,ob,es,g,k _ _ (.inl rfl) e,c⟩
 | set S n=>obtain⟨ob,es,g,t,e,c⟩:=x;exact⟨ob,es,g,t,k _ _ (.inl rfl) e,c⟩
 | ins C dx fs=>
  obtain⟨d,z,F,e,B,⟨m,es,g,e2,c⟩,r⟩:=x;exact⟨ho _ d,z,F,k _ _ (.inl rfl) e,B,⟨m,es,g,k _ _ (.inr d) e2,c⟩,r⟩
 | own y=>obtain⟨ob,e⟩:=x;exact⟨ob,k _ _ (.inl rfl) e⟩
 | xd fs=>obtain⟨B,⟨m,es,g,e,c⟩,r⟩:=x;exact⟨B,⟨m,es,g,k _ _ (.inl rfl) e,c⟩,r⟩
 | rng lo hi=>obtain⟨t,u,v,e⟩:=x;exact⟨t,u,v,k _ _ (.inl rfl) e⟩
 | frz ob u G=>obtain⟨e,q⟩:=x;exact⟨k _ _ (.inl rfl) e,G q⟩
 | tbl ps=>
  have e:h.get? a=some { cls:=.none,data:=.fields ps }:=x
  skip
  exact k a _ (.inl rfl) e
 | met f y=>
  have e:h.get? a=some (PySem.W.methodObj (.ref f)<|.ref y):=x
  skip
  exact k a _ (.inl rfl) e
 | ext J=>obtain⟨p,⟨o,e⟩,st⟩:=x;exact⟨st _ _ p λo q=>k _ _ (.inl rfl) q,⟨o,k _ _ (.inl rfl) e⟩,st⟩
def sH.lt(x:sH P w H h)(e:H a=some o):a<h.objs.size:=(x a o e).lt
def sH.fresh(x:sH P w H h)(e:h.objs.size<=a):H a=none:=by
 cases q:H a with
 | none=>rfl
 | some u=>exact absurd (bH (x.lt q) e)<|cK _
def sH.kept(x:sH P w H h)(k:∀b u,h.get? b=some u->h'.get? b=some u):sH P w H h':=λa o e=>
 (x a o e).stay (λb u _ q=>k b u q) (λ_ q=>q) λ_ _ q=>q
def sH.laid(x:sH P w H h)(k:∀b u,h.get? b=some u->h'.get? b=some u)(hp:h.objs.size<=a)(new:j6 P w (upd H a o) h' a o):sH P w (upd H a o) h':=λb u e=>by
 have hn:=x.fresh hp;by_cases hb:b=a
 ·subst hb;rw[jy]at e;cases e;exact new
 ·rw[iS hb]at e;exact(x b u e).stay (λc v _ q=>k c v q) (λc q=>by rw[iS<|iZ q hn];exact q) λc xs q=>by rw[iS<|iZ q hn];exact q
end
abbrev Rd (H:Hp)(a:aj)(u:HO):Prop:=H a=some u\/∃o,H a=some (.frz o u)
def Rd.ok{P:ah}{w:af}{H:Hp}{a:aj}(r:Rd H a u)(x:sH P w H h):j6 P w H h a u:=by
 rcases r with r|⟨o,r⟩
 ·exact x a u r
 ·obtain⟨_,q⟩:=x a _ r;exact q
abbrev R_:Option HO->Prop
 | some (.lst _)=>True
 | some (.dK _)=>True
 | some (.dT _)=>True
 | some (.set _ _)=>True
 | some (.ins _ _ _)=>True
 | some (.ext _)=>True
 | _=>False
section
variable {P:ah}{w:af}{H:Hp}{h h':ak}{x e:aj}{o':HO}
def sH.write(ok:sH P w H h)(mu:R_<|H x)(he:e=x\/H e=some (.own x))(k:∀b u,b≠e->h.get? b=some u->h'.get? b=some u)(heo:∃u,h'.get? e=some u)
  (new:j6 P w (upd H x o') h' x o'):sH P w (upd H x o') h':=λb u q=>by
 have f:∀c y,H c=some (.own y)->c≠x:=λc y r z=>by subst z;rw[r]at mu;exact mu
 have g:∀c xs,H c=some (.tup xs)->c≠x:=λc xs r z=>by subst z;rw[r]at mu;exact mu
 by_cases hb:b=x
 ·subst hb;rw[jy]at q;cases q;exact new
 ·rw[iS hb]at q;by_cases d:b=e
  ·have q':H b=some (.own x):=by
    rcases he with z|z
    ·exact absurd (d.trans z) hb
    ·rw[d];exact z
   rw[q]at q';cases q';obtain⟨v,hv⟩:=heo;exact⟨v,by rw[d];exact hv⟩
  ·refine(ok b u q).stay (λc v hc r=>k c v ?_ r) (λc r=>by rw[iS<|f c b r];exact r) λc xs r=>by rw[iS<|g c xs r];exact r
   rcases hc with rfl|hc
   ·exact d
   ·rintro rfl
    rcases he with z|z
    ·exact f c b hc z
    ·rw[hc]at z;cases z;exact hb rfl
end
structure Un (fs ex:ba)(H H':Hp)(h h':ak):Prop where
 keep:∀b o,h.get? b=some o->H b=none->b∉fs->b∉ex->h'.get? b=some o
 slot:∀b o,h.get? b=some o->H b=none->b∈fs->b∉ex->∃sl,h'.get? b=some { o with slots:=sl }
 free:∀b o,h.get? b=some o->H b=none->b∉ex->H' b=none
 there:∀b o,h.get? b=some o->b∉ex->∃o',h'.get? b=some o'
 tups:∀b xs,H b=some (.tup xs)->H' b=some (.tup xs)
 frzs:∀b o u,H b=some (.frz o u)->H' b=some (.frz o u)
 tbls:∀b ps,H b=some (.tbl ps)->∃more,H' b=some (.tbl<|ps++more)
section
variable {fs ex:ba}{H H1:Hp}{h h1 h':ak}{a x e:aj}{o:HO}
def Un.any(u:Un fs ex H H1 h h1){ob:Obj}(q:h.get? b=some ob)(n:H b=none)(hx:b∉ex):∃sl,h1.get? b=some { ob with slots:=sl }:=by
 by_cases hb:b∈fs
 ·exact u.slot b ob q n hb hx
 ·exact⟨ob.slots,u.keep b ob q n hb hx⟩
def Un.kept(k:∀b u,h.get? b=some u->h'.get? b=some u):Un fs ex H H h h':=
 ⟨λb ob q _ _ _=>k b ob q,λb ob q _ _ _=>⟨ob.slots,k b ob q⟩,λ_ _ _ n _=>n,λb ob q _=>⟨ob,k b ob q⟩,λ_ _ q=>q,λ_ _ _ q=>q,λ_ ps q=>⟨#[],by rw[q];simp⟩⟩
def Un.refl:Un fs ex H H h h:=Un.kept λ_ _ q=>q
def Un.laid(k:∀b u,h.get? b=some u->h'.get? b=some u)(hp:h.objs.size<=a)(hn:H a=none):Un fs ex H (upd H a o) h h' where
 keep:=λb u q _ _ _=>k b u q
 slot:=λb u q _ _ _=>⟨u.slots,k b u q⟩
 free:=λb u q n _=>by rw[iS<|br<|bH (aS q) hp];exact n
 there:=λb u q _=>⟨u,k b u q⟩
 tups:=λb xs q=>by rw[iS<|iZ q hn];exact q
 frzs:=λb u xs q=>by rw[iS<|iZ q hn];exact q
 tbls:=λb ps q=>⟨#[],by rw[iS<|iZ q hn,q];simp⟩
def Un.write(mu:R_<|H x)(he:e=x\/H e=some (.own x))(k:∀b u,b≠e->h.get? b=some u->h'.get? b=some u)(heo:∃u,h'.get? e=some u):Un fs ex H (upd H x o) h h':=by
 have hx:∀b,H b=none->b≠x:=λb n z=>by subst z;rw[n]at mu;exact mu
 have hb:∀b,H b=none->b≠e:=λb n z=>by
  subst z
  rcases he with r|r
  ·exact hx b n r
  ·rw[n]at r;cases r
 have hm:∀b u,H b=some u->¬R_ (some u)->b≠x:=λb u q nm z=>by subst z;rw[q]at mu;exact nm mu
 refine⟨λb u q n _ _=>k b u (hb b n) q,λb u q n _ _=>⟨u.slots,k b u (hb b n) q⟩,λb u q n _=>by rw[iS<|hx b n];exact n,λb u q _=>?_,
  λb xs q=>by rw[iS<|hm b _ q λz=>z];exact q,λb u xs q=>by rw[iS<|hm b _ q λz=>z];exact q,λb ps q=>⟨#[],by rw[iS<|hm b _ q λz=>z,q];simp⟩⟩
 by_cases d:b=e
 ·subst d;exact heo
 ·exact⟨u,k b u d q⟩
end
abbrev SN (h:ak)(H:Hp):ba:=(List.range h.objs.size).filter λa=>(H a).isSome
abbrev Ah (h:ak)(H:Hp):ak:=PySem.W.hideAll h<|SN h H
def GL(h:ak)(H:Hp):(Ah h H).objs.size=h.objs.size:=PySem.W.hideAll_size _ _
def HY{h:ak}{H:Hp}(e:h.get? b=some o)(n:H b=none):(Ah h H).get? b=some o:=
 dJ _ e λhm=>by
  have q:(H b).isSome=true:=(List.mem_filter.mp hm).2;rw[n]at q;simp at q
def MC{h:ak}{H:Hp}(e:(Ah h H).get? b=some o):h.get? b=some o/\H b=none:=by
 have d:h.get? b=some o:=eS (SN h H) e;refine⟨d,?_⟩
 cases q:H b with
 | none=>rfl
 | some x=>
  have hm:b∈SN h H:=List.mem_filter.mpr ⟨cZ.mpr<|aS d,by simp[q]⟩;have z:(Ah h H).get? b=none:=PySem.W.hideAll_none (SN h H) hm;rw[z]at e;cases e
abbrev Nv (g h:ak)(L:aj):bt:=(List.range h.objs.size).filterMap λa=>if a=L\/(g.get? a).isSome=true then none else(h.get? a).map λo=>(a,o)
abbrev rest (g h:ak)(L d:aj):bt:=(Nv g h L).filter λp=>decide<|p.1≠d
structure Mod (K:aq)(mg:Str->be)(base:ak):Prop where
 kin:K.In base
 glob:base.Ns mainGlobals mg
 blt:∃mb,base.Ns builtinsNs mb/\∀x:Str,x ≠ "__name__" -> mb x=bootBuiltins x
 nolimit:base.NoLimit
structure Cx where
 prog:ah
 w:af
 K:aq
 mg:Str->be
 base:ak
 A:au
 N:am
 s₀:aA
 H₀:Hp
 env:Env
 outer:List Env
 stack:List Env
 ex:ba
 fn:Str->Bool
 calm:Bool
 pn:bt
 xe:aa->aA->Prop
abbrev frs (l:List Env):ba:=l.filterMap (·.frame)
meta abbrev Cx.fs (X:Cx):ba:=frs X.outer
abbrev Rg (sc:Scope)(x:Str):Prop:=sc.names.lookup x=some .local\/sc.names.lookup x=some .cell\/sc.names.lookup x=some .free
abbrev Loc (sc:Scope)(x:Str):Prop:=sc.names.lookup x=some .local\/sc.names.lookup x=some .cell
abbrev Look (env:Env)(h:ak)(m:Str->be)(x:Str)(u:aa):Prop:=
 (env.kindOf x=some .local/\m x=some u)\/((env.kindOf x=some .cell\/env.kindOf x=some .free)/\∃c,env.cells.lookup x=some c/\h.IsCell c (some u))
structure Cx.Ok (X:Cx):Prop where
 mod:Mod X.K X.mg X.base
 kind:X.env.scope.kind=.function
 glob:X.env.globals=mainGlobals
 blt:X.env.builtins=builtinsNs
 above:X.s₀.heap.objs.size<=X.env.locals
 inj:∀x y c,X.env.cells.lookup x=some c->X.env.cells.lookup y=some c->x=y
 has:∀x,(X.env.kindOf x=some .cell\/X.env.kindOf x=some .free)->∃c,X.env.cells.lookup x=some c
 cab:∀x c,X.fn x=true->X.env.cells.lookup x=some c->X.s₀.heap.objs.size<=c
 hd:X.calm=true->X.A.handled=none
 frames:X.A.frames=some X.stack
 stk:X.stack=X.outer\/(X.stack=X.env::X.outer/\X.env.frame=some X.env.locals)
 exf:∀b∈X.ex,b≠X.env.locals/\∀x c,X.env.cells.lookup x=some c->c≠b
 bs:∀b o,X.base.get? b=some o->X.s₀.heap.get? b=some o/\X.H₀ b=none
 bsz:X.base.objs.size<=X.s₀.heap.objs.size
 noex:∀b o,X.base.get? b=some o->b∉X.ex
 exfs:∀b∈X.ex,b∉X.fs
 qo:X.s₀.heap.FunFrames X.base X.outer
 frf:∀b∈X.fs,X.H₀ b=none
structure Inv (X:Cx)(pins:bt)(σ:List (Option V))(H:Hp)(s:aA):Prop where
 ok:X.Ok
 os:s.os=X.s₀.os
 bare:AllBare s.gens
 base:Un X.fs X.ex X.H₀ H X.s₀.heap s.heap
 loc:∃m,s.heap.Ns X.env.locals m/\∀(i:Nat) (x:Str) (v:V),X.N[i]?=some x->σ[i]?=some (some v)->Rg X.env.scope x->∃u,RelV v u/\Look X.env s.heap m x u
 cell:∀x c,X.env.cells.lookup x=some c->∃v,s.heap.IsCell c v
 free:H X.env.locals=none
 freeC:∀x c,X.env.cells.lookup x=some c->H c=none
 pin:∀p∈X.pn++pins,s.heap.get? p.1=some p.2/\H p.1=none/\p.1≠X.env.locals/\p.1∉X.fs/\∀v,p.2.data≠.cell v
 hok:sH X.prog X.w H s.heap
 len:σ.length=X.N.length
section
variable {X:Cx}{pins:bt}{σ:List (Option V)}{H H':Hp}{s:aA}{h':ak}
def Cx.Ok.Uq(ok:X.Ok)(e:X.base.get? b=some o):b∉X.fs:=λhb=>by
 have:=(ok.qo.mem hb).1;rw[e]at this;cases this
def Inv.bs(I:Inv X pins σ H s):∀b o,X.base.get? b=some o->s.heap.get? b=some o/\H b=none:=λb o e=>
 ⟨I.base.keep b o (I.ok.bs b o e).1 (I.ok.bs b o e).2 (I.ok.Uq e)<|I.ok.noex b o e,I.base.free b o (I.ok.bs b o e).1 (I.ok.bs b o e).2<|I.ok.noex b o e⟩
def Inv.bk(I:Inv X pins σ H s):∀b o,X.base.get? b=some o->s.heap.get? b=some o:=λb o e=>(I.bs b o e).1
def Inv.mod(I:Inv X pins σ H s):Mod X.K X.mg X.base:=I.ok.mod
def Inv.wj(I:Inv X pins σ H s):X.K.In s.heap:=I.ok.mod.kin.keeps I.bk
def Inv.lt(I:Inv X pins σ H s):X.env.locals<s.heap.objs.size:=let⟨_,hn,_⟩:=I.loc;hn.lt
def Inv.sz(I:Inv X pins σ H s):X.s₀.heap.objs.size<=s.heap.objs.size:=bX I.ok.above<|c8 I.lt
def Inv.Tt(I:Inv X pins σ H s){a:aj}(h:s.heap.objs.size<=a):a∉X.fs:=λhb=>by
 obtain⟨_,o,d,_⟩:=I.ok.qo.mem hb;exact absurd (bH (aS d)<|bX I.sz h)<|cK _
def Inv.Nd(I:Inv X pins σ H s):∀x c,X.env.cells.lookup x=some c->c≠X.env.locals:=λx c e z=>by
 obtain⟨v,o,g,hd⟩:=I.cell x c e;obtain⟨m,⟨o',es,j,d,f,_⟩,_⟩:=I.loc;rw[z,d]at g;cases g;rw[f]at hd;cases hd
def Inv.qo(I:Inv X pins σ H s):s.heap.FunFrames X.base X.outer:=by
 have all:∀(l:List Env),(∀b∈frs l,b∈X.fs)->X.s₀.heap.FunFrames X.base l->s.heap.FunFrames X.base l:=by
  intro l
  induction l with
  | nil=>intro _ _;trivial
  | cons env r f=>
   intro hs k;obtain⟨j,⟨L,o,hf,hn,m,hd⟩,g⟩:=k;have d:L∈X.fs:=hs L (by unfold frs;rw[eB,hf];exact a_);obtain⟨q,e⟩:=I.base.slot L o m (I.ok.frf L d) d λz=>I.ok.exfs L z d;exact⟨j,⟨L,_,hf,hn,e,hd⟩,f (λb hb=>hs b<|by unfold frs;rw[eB,hf];exact aN _ hb) g⟩
 exact all X.outer (λ_ hb=>hb) I.ok.qo
def Inv.stack(I:Inv X pins σ H s):s.heap.FunFrames X.base X.stack:=by
 rcases I.ok.stk with e|⟨e,hf⟩
 ·rw[e];exact I.qo
 ·rw[e];obtain⟨m,hn,_⟩:=I.loc;refine .cons (by rw[I.ok.kind];decide) hf hn ?_ I.qo;exact Heap.get?_none_of_le<|bX I.ok.bsz I.ok.above
def Inv.u7(I:Inv X pins σ H s):∀b∈frs X.stack,b∈X.env.locals::X.fs:=λb hb=>by
 rcases I.ok.stk with e|⟨e,hf⟩
 ·rw[e]at hb;exact aN _ hb
 ·rw[e]at hb;unfold frs at hb;rw[eB,hf]at hb;exact hb
def Inv.wW(I:Inv X pins σ H s):∀b∈frs X.stack,H b=none:=λb hb=>by
 rcases bh.mp (I.u7 b hb)with e|hb
 ·rw[e];exact I.free
 ·obtain⟨_,o,d,_⟩:=I.ok.qo.mem hb;exact I.base.free b o d (I.ok.frf b hb) λz=>I.ok.exfs b z hb
def Inv.step{g':Array GenState}{t':Nat}{d':Drawn}{ch:ba}(I:Inv X pins σ H s)
  (hch:∀b∈ch,(b∈X.ex\/X.s₀.heap.objs.size<=b)/\b≠X.env.locals/\(∀x c,X.env.cells.lookup x=some c->c≠b)/\∀p∈X.pn++pins,p.1≠b)
  (keep:∀b o,b≠X.env.locals->b∉X.fs->b∉ch->s.heap.get? b=some o->H b=none->h'.get? b=some o)
  (slot:∀b o,b≠X.env.locals->b∈X.fs->b∉ch->s.heap.get? b=some o->H b=none->∃sl,h'.get? b=some { o with slots:=sl }) (free:∀b o,b∉ch->s.heap.get? b=some o->H b=none->H' b=none)
  (there:∀b o,b∉ch->s.heap.get? b=some o->∃o',h'.get? b=some o')
  (tups:∀b xs,H b=some (.tup xs)->H' b=some (.tup xs)) (frzs:∀b o u,H b=some (.frz o u)->H' b=some (.frz o u)) (tbls:∀b ps,H b=some (.tbl ps)->∃more,H' b=some (.tbl<|ps++more))
  (ns:∀m,s.heap.Ns X.env.locals m->h'.Ns X.env.locals m) (hok:sH X.prog X.w H' h') (hg:AllBare g') :
  Inv X pins σ H' { s with heap:=h',gens:=g',drawn:=d',toks:=t' }:=by
 have B:∀b o,X.s₀.heap.get? b=some o->b≠X.env.locals:=λb o e=>br<|bH (aS e) I.ok.above;have j:∀b o,X.s₀.heap.get? b=some o->b∉X.ex->b∉ch:=λb o e hx hb=>by
  rcases(hch b hb).1 with z|z
  ·exact hx z
  ·exact absurd (bH (aS e) z)<|cK _
 have g:∀x c,X.env.cells.lookup x=some c->∀v,s.heap.IsCell c v->h'.IsCell c v:=λx c e v ⟨o,t,hd⟩=>by
  have f:c∉ch:=λz=>(hch c z).2.2.1 x c e rfl;by_cases hc:c∈X.fs
  ·obtain⟨sl,q⟩:=slot c o (I.Nd x c e) hc f t<|I.freeC x c e;exact⟨_,q,hd⟩
  ·exact⟨o,keep c o (I.Nd x c e) hc f t<|I.freeC x c e,hd⟩
 refine⟨I.ok,I.os,hg,⟨λb o e n hb hx=>?_,λb o e n hb hx=>?_,λb o e n hx=>?_,λb o e hx=>?_,λb xs e=>tups b xs<|I.base.tups b xs e,λb o xs e=>frzs b o xs<|I.base.frzs b o xs e,λb ps e=>?_⟩,?_,λx c e=>?_,?_,λx c e=>?_,λp hp=>?_,hok,I.len⟩
 ·exact keep b o (B b o e) hb (j b o e hx) (I.base.keep b o e n hb hx) (I.base.free b o e n hx)
 ·obtain⟨sl,e1⟩:=I.base.slot b o e n hb hx;obtain⟨C,e2⟩:=slot b _ (B b o e) hb (j b o e hx) e1<|I.base.free b o e n hx;exact⟨C,e2⟩
 ·obtain⟨o',e1⟩:=I.base.there b o e hx;exact free b o' (j b o e hx) e1 (I.base.free b o e n hx)
 ·obtain⟨o',e1⟩:=I.base.there b o e hx;exact there b o' (j b o e hx) e1
 ·obtain⟨J,e1⟩:=I.base.tbls b ps e;obtain⟨K,e2⟩:=tbls b _ e1;exact⟨J++K,by rw[e2,Array.append_assoc]⟩
 ·obtain⟨m,hn,L⟩:=I.loc;refine⟨m,ns m hn,λi x v e1 e2 e3=>?_⟩;obtain⟨u,r,l⟩:=L i x v e1 e2 e3;refine⟨u,r,?_⟩
  rcases l with l|⟨k,c,e,z⟩
  ·exact .inl l
  ·exact .inr ⟨k,c,e,g x c e _ z⟩
 ·obtain⟨v,z⟩:=I.cell x c e;exact⟨v,g x c e v z⟩
 ·obtain⟨m,⟨o,_,_,t,_⟩,_⟩:=I.loc;exact free _ o (λz=>(hch _ z).2.1 rfl) t I.free
 ·obtain⟨v,o,t,hd⟩:=I.cell x c e;exact free c o (λz=>(hch c z).2.2.1 x c e rfl) t (I.freeC x c e)
 ·obtain⟨e,n,F,G,d⟩:=I.pin p hp;have f:p.1∉ch:=λz=>(hch p.1 z).2.2.2 p hp rfl;exact⟨keep p.1 p.2 F G f e n,free p.1 p.2 f e n,F,G,d⟩
def Inv.un{t':Nat}(I:Inv X pins σ H s)(u:Un X.fs [] H H' s.heap h')(hok:sH X.prog X.w H' h'):Inv X pins σ H' { s with heap:=h',toks:=t' }:=by
 obtain⟨m,⟨o,es,z,j,r⟩,_⟩:=id I.loc;obtain⟨t,q⟩:=u.any j I.free (by simp);exact I.step (g':=s.gens) (d':=s.drawn) (ch:=[]) (nofun) (λb o _ hb _ e n=>u.keep b o e n hb<|by simp) (λb o _ hb _ e n=>u.slot b o e n hb<|by simp) (λb o _ e n=>u.free b o e n<|by simp) (λb o _ e=>u.there b o e<|by simp) u.tups u.frzs u.tbls (λm' hm=>by
  obtain⟨o',g,f,d,k⟩:=hm;rw[j]at d;cases d;exact⟨_,g,f,q,k⟩) hok I.bare
def Inv.call{g':Array GenState}{t':Nat}{d':Drawn}{ch:ba}(I:Inv X pins σ H s)(u:Un (frs X.stack) ch H H' s.heap h')(hok:sH X.prog X.w H' h')(hg:AllBare g')
  (hch:∀b∈ch,(b∈X.ex\/X.s₀.heap.objs.size<=b)/\b≠X.env.locals/\(∀x c,X.env.cells.lookup x=some c->c≠b)/\∀p∈X.pn++pins,p.1≠b) :
  Inv X pins σ H' { s with heap:=h',gens:=g',drawn:=d',toks:=t' }:=by
 obtain⟨m,⟨o,es,B,k,r⟩,_⟩:=id I.loc;obtain⟨t,f⟩:=u.any k I.free λz=>(hch _ z).2.1 rfl;exact I.step (ch:=ch) hch (λb o f hb hc e n=>u.keep b o e n (λz=>(bh.mp<|I.u7 b z).elim f hb) hc) (λb o _ _ hc e n=>u.any e n hc) (λb o hc e n=>u.free b o e n hc) (λb o hc e=>u.there b o e hc) u.tups u.frzs u.tbls (λm' hm=>by
  obtain⟨o',j,g,d,q⟩:=hm;rw[k]at d;cases d;exact⟨_,j,g,f,q⟩) hok hg
def Inv.turned{t':Nat}{it:aj}(I:Inv X pins σ H s)(k:∀b o,b≠it->s.heap.get? b=some o->h'.get? b=some o)(hn:H it=none)(hL:it≠X.env.locals)
  (h1:it∈X.ex\/X.s₀.heap.objs.size<=it) (h2:∀x c,X.env.cells.lookup x=some c->c≠it) (h3:∀p∈X.pn++pins,p.1≠it):Inv X pins σ H { s with heap:=h',toks:=t' }:=by
 have d:∀b u,H b=some u->b≠it:=λb u e z=>by rw[z,hn]at e;cases e
 refine I.step (g':=s.gens) (d':=s.drawn) (ch:=[it]) (λb hb=>?_) (λb o _ _ hc e _=>k b o (λz=>hc<|by simp[z]) e) (λb o _ _ hc e _=>⟨o.slots,k b o (λz=>hc<|by simp[z]) e⟩) (λ_ _ _ _ n=>n)
  (λb o hc e=>⟨o,k b o (λz=>hc<|by simp[z]) e⟩) (λ_ _ e=>e) (λ_ _ _ e=>e) (λb ps e=>⟨#[],by rw[e];simp⟩) (λm hm=>?_) (λb u e=>?_) I.bare
 ·have e:b=it:=by simpa using hb
  subst e;exact⟨h1,hL,h2,h3⟩
 ·obtain⟨o,es,f,g,r⟩:=hm;exact⟨o,es,f,k _ o (cQ hL) g,r⟩
 ·refine(I.hok b u e).stay (λc v hc q=>k c v ?_ q) (λ_ q=>q) λ_ _ q=>q
  rcases hc with z|z
  ·rw[z];exact d b u e
  ·exact d c _ z
def Inv.tok(I:Inv X pins σ H s)(t:Nat):Inv X pins σ H { s with toks:=t }:=I.un (h':=s.heap) (t':=t) Un.refl I.hok
def Inv.kept{t':Nat}(I:Inv X pins σ H s)(k:∀b u,s.heap.get? b=some u->h'.get? b=some u):Inv X pins σ H { s with heap:=h',toks:=t' }:=I.un (Un.kept k)<|I.hok.kept k
def Inv.laid{a:aj}{t':Nat}(I:Inv X pins σ H s)(k:∀b u,s.heap.get? b=some u->h'.get? b=some u)(hp:s.heap.objs.size<=a)(new:j6 X.prog X.w (upd H a o) h' a o) :
  Inv X pins σ (upd H a o) { s with heap:=h',toks:=t' }:=I.un (Un.laid k hp<|I.hok.fresh hp)<|I.hok.laid k hp new
def Inv.write{x:aj}{t':Nat}(I:Inv X pins σ H s)(mu:R_<|H x)(he:e=x\/H e=some (.own x))(k:∀b u,b≠e->s.heap.get? b=some u->h'.get? b=some u)(heo:∃u,h'.get? e=some u)
  (new:j6 X.prog X.w (upd H x o) h' x o):Inv X pins σ (upd H x o) { s with heap:=h',toks:=t' }:=I.un (Un.write mu he k heo)<|I.hok.write mu he k heo new
def Inv.DW{pins':bt}(I:Inv X pins σ H s)(h:∀p∈pins',s.heap.get? p.1=some p.2/\H p.1=none/\p.1≠X.env.locals/\p.1∉X.fs/\∀v,p.2.data≠.cell v):Inv X pins' σ H s:=
 ⟨I.ok,I.os,I.bare,I.base,I.loc,I.cell,I.free,I.freeC,λp hp=>(bT.mp hp).elim (λz=>I.pin p<|cC _ z)<|h p,I.hok,I.len⟩
def yf{N:am}(hN:N.Nodup){i j:Nat}{x:Str}(a:N[i]?=some x)(b:N[j]?=some x):i=j:=by
 obtain⟨h1,e1⟩:=aJ.mp a;obtain⟨d,e2⟩:=aJ.mp b;exact(iw hN).mp (e1.trans e2.symm)
def GN{A:au}{E:aa->aA->Prop}{i:Nat}{x:Str}{v:V}{Q:Unit->aA->Prop}(I:Inv X pins σ H s)(hN:X.N.Nodup)(hi:X.N[i]?=some x)(hx:Loc X.env.scope x)(r:RelV v u)
  (h:∀s',Inv X pins (σ.set i<|some v) H s'->(∃a,Heap.SameBut a s.heap s'.heap/\(a=X.env.locals\/X.env.cells.lookup x=some a))->Q Unit.unit s') (hf:X.fn x=true\/X.env.scope.names.lookup x=some .local:=by first|exact .inl rfl|exact .inr rfl|assumption):wpAny M A (storeName X.env x u) Q E s:=by
 obtain⟨m,hn,hl⟩:=id I.loc;have L:(X.env.scope.kind == .class || (X.env.scope.kind == .module && X.env.locals != X.env.globals))=false:=by rw[I.ok.kind];rfl
 have t:i<σ.length:=by rw[I.len];exact(aJ.mp hi).1
 have Nd:=I.Nd;have f:∀{a:aj} {h':ak},(∃o,s.heap.get? a=some o/\H a=none)->Heap.SameBut a s.heap h'->sH X.prog X.w H h':=λ{a h'} ha hs b ob e=>by
  obtain⟨_,_,hfree⟩:=ha;refine(I.hok b ob e).stay (λc O hc q=>(hs.2 c ?_).trans q) (λ_ q=>q) λ_ _ q=>q;rintro rfl
  rcases hc with rfl|hc
  ·rw[hfree]at e;cases e
  ·rw[hfree]at hc;cases hc
 rcases hx with g|g
 ·refine wpAny_storeName_local g hn (λh' hn' hs=>?_) L;obtain⟨oL,_,_,hoL,_⟩:=id hn;refine h _ ⟨I.ok,I.os,I.bare,⟨λb o e n hb hx=>?_,λb o e n hb hx=>?_,I.base.free,λb o e hx=>?_,I.base.tups,I.base.frzs,I.base.tbls⟩,⟨_,hn',λj y v' e1 e2 e3=>?_⟩,λy c e=>?_,I.free,I.freeC,λp hp=>?_,f ⟨oL,hoL,I.free⟩ hs,by simpa using I.len⟩ ⟨_,hs,.inl rfl⟩
  ·exact(hs.2 b<|br<|bH (aS e) I.ok.above).trans (I.base.keep b o e n hb hx)
  ·obtain⟨sl,e1⟩:=I.base.slot b o e n hb hx;exact⟨sl,(hs.2 b<|br<|bH (aS e) I.ok.above).trans e1⟩
  ·obtain⟨o',e1⟩:=I.base.there b o e hx;exact⟨o',(hs.2 b<|br<|bH (aS e) I.ok.above).trans e1⟩
  ·by_cases C:j=i
   ·subst C;rw[hi]at e1;cases e1;rw[bK t]at e2
    cases e2
    exact⟨u,r,.inl ⟨g,by simp⟩⟩
   ·rw[bN<|cQ C]at e2;obtain⟨Y,W,q⟩:=hl j y v' e1 e2 e3;refine⟨Y,W,?_⟩
    rcases q with⟨k,e⟩|⟨k,c,e,z⟩
    ·refine .inl ⟨k,?_⟩;have:y≠x:=λe=>C<|yf hN e1<|e ▸ hi;simp[this,e]
    ·exact .inr ⟨k,c,e,z.sameBut hs<|Nd y c e⟩
  ·obtain⟨O,z⟩:=I.cell y c e;exact⟨O,z.sameBut hs<|Nd y c e⟩
  ·obtain⟨e,n,P,Z,d⟩:=I.pin p hp;exact⟨(hs.2 p.1 P).trans e,n,P,Z,d⟩
 ·have B:X.fn x=true:=by
   rcases hf with z|z
   ·exact z
   ·rw[z]at g;cases g
  obtain⟨c,hc⟩:=I.ok.has x<|.inl g;obtain⟨O,z⟩:=I.cell x c hc;refine wpAny_storeName_cell I.ok.kind g hc z λh' K hs=>?_;obtain⟨oc,G,F⟩:=id z;refine h { s with heap:=h' } ⟨I.ok,I.os,I.bare,⟨λb o e n hb hx=>?_,λb o e n hb hx=>?_,I.base.free,λb o e hx=>?_,I.base.tups,I.base.frzs,I.base.tbls⟩,⟨m,hn.sameBut hs<|cQ<|Nd x c hc,λj y v' e1 e2 e3=>?_⟩,λy U e=>?_,I.free,I.freeC,λp hp=>?_,f ⟨oc,G,I.freeC x c hc⟩ hs,by simpa using I.len⟩ ⟨c,hs,.inr hc⟩
  ·exact(hs.2 b<|br<|bH (aS e)<|I.ok.cab x c B hc).trans (I.base.keep b o e n hb hx)
  ·obtain⟨sl,e1⟩:=I.base.slot b o e n hb hx;exact⟨sl,(hs.2 b<|br<|bH (aS e)<|I.ok.cab x c B hc).trans e1⟩
  ·obtain⟨o',e1⟩:=I.base.there b o e hx;exact⟨o',(hs.2 b<|br<|bH (aS e)<|I.ok.cab x c B hc).trans e1⟩
  ·by_cases C:j=i
   ·subst C;rw[hi]at e1;cases e1;rw[bK t]at e2
    cases e2
    exact⟨u,r,.inr ⟨.inl g,c,hc,K⟩⟩
   ·rw[bN<|cQ C]at e2;obtain⟨Y,W,q⟩:=hl j y v' e1 e2 e3;refine⟨Y,W,?_⟩
    rcases q with q|⟨k,U,e,z'⟩
    ·exact .inl q
    ·refine .inr ⟨k,U,e,z'.sameBut hs ?_⟩;rintro rfl;exact C<|yf hN e1<|I.ok.inj _ _ _ e hc ▸ hi
  ·by_cases J:U=c
   ·subst J;exact⟨_,K⟩
   ·obtain⟨w2,z2⟩:=I.cell y U e;exact⟨w2,z2.sameBut hs J⟩
  ·obtain⟨e,n,P,Z,d⟩:=I.pin p hp;refine⟨(hs.2 p.1 ?_).trans e,n,P,Z,d⟩;intro q;rw[q,G]at e;have q':oc=p.2:=aR e;exact d O<|by rw[<- q'];exact F
theorem rf{A:au}{E:aa->aA->Prop}{i:Nat}{x:Str}{v:V}{Q:Unit->aA->Prop}(I:Inv X pins σ H s)(hN:X.N.Nodup)(hi:X.N[i]?=some x)(hx:Loc X.env.scope x)(r:RelV v u)
  (h:∀s',Inv X pins (σ.set i<|some v) H s'->Q Unit.unit s') (hf:X.fn x=true\/X.env.scope.names.lookup x=some .local:=by first|exact .inl rfl|exact .inr rfl|assumption):wpAny M A (storeName X.env x u) Q E s:=
 GN I hN hi hx r (λs' d _=>h s' d) hf
def Inv.BA{s':aA}{ch:ba}(I:Inv X pins σ H s)(ho:s'.os=s.os)(u:Un (frs X.stack) ch H H' s.heap s'.heap)(hok:sH X.prog X.w H' s'.heap)(hg:AllBare s'.gens)
  (hch:∀b∈ch,(b∈X.ex\/X.s₀.heap.objs.size<=b)/\b≠X.env.locals/\(∀x c,X.env.cells.lookup x=some c->c≠b)/\∀p∈X.pn++pins,p.1≠b):Inv X pins σ H' s':=by
 obtain⟨h',g',d',t',o'⟩:=s';have e:o'=s.os:=ho;subst e;exact I.call (g':=g') (t':=t') (d':=d') u hok hg hch
end
meta abbrev XK:=aa->Option aj->Hp->Prop
meta abbrev St:=List<|Option V
meta abbrev VK:=V->Hp->Prop
meta abbrev TE:=St->Hp->VK->Prop
meta abbrev TT:=St->Hp->(Bool->Hp->Prop)->Prop
meta abbrev TA:=St->Hp->(List V->Hp->Prop)->Prop
structure Ends where
 nx:St->Hp->Prop
 rt:VK
 bk:St->Hp->Prop:=λ_ _=>False
 ct:St->Hp->Prop:=λ_ _=>False
meta abbrev TS:=Ends->St->Hp->Prop
abbrev EP (X:Cx)(pins:bt)(σ:St)(Q:VK)(u:aa)(s':aA):Prop:=∃v H',Inv X pins σ H' s'/\RelV v u/\Q v H'
abbrev TP (X:Cx)(pins:bt)(σ:St)(Q:Bool->Hp->Prop)(b:Bool)(s':aA):Prop:=∃H',Inv X pins σ H' s'/\Q b H'
abbrev AP (X:Cx)(pins:bt)(σ:St)(Q:List V->Hp->Prop)(us:ar)(s':aA):Prop:=∃vs H',Inv X pins σ H' s'/\Vals vs us/\Q vs H'
abbrev SP (X:Cx)(pins:bt)(D:Ends)(f:Flow)(s':aA):Prop:=
 match f with
 | .next=>∃d H',Inv X pins d H' s'/\D.nx d H'
 | .brk=>∃d H',Inv X pins d H' s'/\D.bk d H'
 | .cont=>∃d H',Inv X pins d H' s'/\D.ct d H'
 | .ret u=>∃v d H',Inv X pins d H' s'/\RelV v u/\D.rt v H'
abbrev PE (X:Cx)(e:aC)(t:TE):Prop:=
 ∀(pins:bt) (s:aA) (σ:St) (H:Hp) (Q:VK),Inv X pins σ H s->t σ H Q->wpAny (model X.prog X.w) X.A (eval e X.env) (EP X pins σ Q) X.xe s
abbrev PT (X:Cx)(e:aC)(t:TT):Prop:=
 ∀(pins:bt) (s:aA) (σ:St) (H:Hp) (Q:Bool->Hp->Prop),Inv X pins σ H s->t σ H Q->wpAny (model X.prog X.w) X.A (isTrue e X.env<|eval e X.env) (TP X pins σ Q) X.xe s
abbrev PW (X:Cx)(e:aC)(t:TT):Prop:=
 ∀(d:Sem aa) (pins:bt) (s:aA) (σ:St) (H:Hp) (Q:Bool->Hp->Prop),Inv X pins σ H s->t σ H Q->wpAny (model X.prog X.w) X.A (isTrue e X.env d) (TP X pins σ Q) X.xe s
abbrev PA (X:Cx)(es:List aC)(t:TA):Prop:=
 ∀(pos:Pos) (pins:bt) (s:aA) (σ:St) (H:Hp) (Q:List V->Hp->Prop),Inv X pins σ H s->t σ H Q->wpAny (model X.prog X.w) X.A (spliced<|backTo pos<|starEach es X.env) (AP X pins σ Q) X.xe s
abbrev PS (X:Cx)(st:aE)(t:TS):Prop:=
 ∀(pins:bt) (s:aA) (σ:St) (H:Hp) (D:Ends),Inv X pins σ H s->t D σ H->wpAny (model X.prog X.w) X.A (exec st X.env) (SP X pins D) X.xe s
abbrev yo (X:Cx)(st:List aE)(t:TS):Prop:=
 ∀(pins:bt) (s:aA) (σ:St) (H:Hp) (D:Ends),Inv X pins σ H s->t D σ H->wpAny (model X.prog X.w) X.A (execs st X.env) (SP X pins D) X.xe s
def ki{α:Type}{t:Sem α}{Q Q':α->aA->Prop}{A:au}{E:aa->aA->Prop}(h:wpAny M A t Q E s)(hQ:∀a s,Q a s->Q' a s):wpAny M A t Q' E s:=cE h hQ λ_ _ x=>x
section
variable {X:Cx}
abbrev Uk (i:Nat):TE:=λσ H Q=>∃v,σ[i]?=some (some v)/\Q v H
abbrev tC (v:V):TE:=λ_ H Q=>Q v H
def O6{i:Nat}{x:Str}(hN:X.N[i]?=some x)(hv:Rg X.env.scope x)(hd:(x == ("__debug__" : Str))=false:=by decide)(hcd:(x == ("__classdict__" : Str))=false:=by decide):PE X (.Name x pos) (Uk i):=by
 fin2;obtain⟨v,e,h⟩:=h;obtain⟨m,hn,j⟩:=I.loc;obtain⟨u,r,l⟩:=j i x v hN e hv;have g:EP X pins σ Q u s:=⟨v,H,I,r,h⟩
 rcases l with⟨f,hm⟩|⟨f,c,hc,d⟩
 ·exact wpAny_Name (wpAny_loadName_local I.ok.kind f hn hm g) hd
 ·rcases f with f|f
  ·exact wpAny_Name (wpAny_loadName_cell I.ok.kind f hc d g) hd
  ·exact wpAny_Name (wpAny_loadName_free I.ok.kind f hc d g hcd) hd
def Dn{i j pos}:PE X (.Constant (.int i) j pos) (tC<|.int i):=λ_ _ _ H _ I h=>wpAny_Constant_int ⟨.int i,H,I.tok _,⟨_,rfl⟩,h⟩
def Ry{b j pos}:PE X (.Constant (.bool b) j pos) (tC<|.bl b):=λ_ _ _ H _ I h=>Constant_bool ⟨.bl b,H,I,rfl,h⟩
def OB{j pos}:PE X (.Constant .none j pos) (tC .jC):=λ_ _ _ H _ I h=>Constant_none ⟨.jC,H,I,rfl,h⟩
def Ll{x j pos}:PE X (.Constant (.str x) j pos) (tC<|.str x):=λ_ _ _ H _ I h=>Calls.Constant_str ⟨.str x,H,I.tok _,⟨_,rfl⟩,h⟩
abbrev Gl (X:Cx)(x:Str):Prop:=X.env.kindOf x=some .globalImplicit
def sf{E:aa->aA->Prop}{H:Hp}{x:Str}{Q:aa->aA->Prop}(I:Inv X pins σ H s)(hg:Gl X x)(hm:X.mg x=some u)(h:Q u s)
  (hd:(x == ("__debug__" : Str))=false:=by decide):wpAny (model X.prog X.w) X.A (eval (.Name x pos) X.env) Q E s:=
 Calls.Name_function_global I.ok.kind hg (Calls.loadGlobal_global (by rw[I.ok.glob];exact I.mod.glob.keeps I.bk) hm h) hd
def qV{E:aa->aA->Prop}{H:Hp}{x:Str}{Q:aa->aA->Prop}(I:Inv X pins σ H s)(hg:Gl X x)(hm:X.mg x=none)(hv:bootBuiltins x=some u)(h:Q u s)
  (hn:x ≠ "__name__" := by decide) (hd:(x == ("__debug__" : Str))=false:=by decide):wpAny (model X.prog X.w) X.A (eval (.Name x pos) X.env) Q E s:=by
 obtain⟨f,h1,d⟩:=I.mod.blt;exact Calls.Name_function_global I.ok.kind hg (Calls.loadGlobal_builtin (by rw[I.ok.glob];exact I.mod.glob.keeps I.bk) hm (by rw[I.ok.blt];exact h1.keeps I.bk) ((d x hn).trans hv) h) hd
def DZ{x:Str}{v:V}(hg:Gl X x)(hm:X.mg x=some u)(r:RelV v u)(hd:(x == ("__debug__" : Str))=false:=by decide):PE X (.Name x pos) (tC v):=
 λ_ _ _ H _ I h=>sf I hg hm ⟨v,H,I,r,h⟩ hd
def FH{x:Str}{v:V}(hg:Gl X x)(hm:X.mg x=none)(hv:bootBuiltins x=some u)(r:RelV v u)(hn:x ≠ "__name__" := by decide)(hd:(x == ("__debug__" : Str))=false:=by decide):PE X (.Name x pos) (tC v):=
 λ_ _ _ H _ I h=>qV I hg hm hv ⟨v,H,I,r,h⟩ hn hd
variable {a b:aC}{ta tb:TE}{pos:Pos}
variable {tA tB':TT}{rest:List aC}
abbrev RA (t u:TT):TT:=λσ H Q=>t σ H λc H1=>if c=true then u σ H1 Q else Q false H1
abbrev Vk (t u:TT):TT:=λσ H Q=>t σ H λc H1=>if c=true then Q true H1 else u σ H1 Q
abbrev T8 (t:TT):TT:=λσ H Q=>t σ H λc H1=>Q (!c) H1
def MV(ha:PT X a tA):PW X (.BoolOp .And [a] pos) tA:=by
 intro wh pins s σ H Q I h;refine isTrue_and (ki (ha pins s σ H Q I h) λc d e=>?_)
 cases c with
 | true=>exact isTrue_and_nil e
 | false=>exact e
def Qa(ha:PT X a tA):PW X (.BoolOp .Or [a] pos) tA:=by
 intro wh pins s σ H Q I h;refine isTrue_or (ki (ha pins s σ H Q I h) λc d e=>?_)
 cases c with
 | false=>exact isTrue_or_nil e
 | true=>exact e
def OL(ha:PT X a tA)(hb:PW X (.BoolOp .And (b::rest) pos) tB'):PW X (.BoolOp .And (a::b::rest) pos) (RA tA tB'):=by
 intro wh pins s σ H Q I h;refine isTrue_and (ki (ha pins s σ H _ I h) λc f ⟨H1,I1,d⟩=>?_)
 cases c with
 | true=>exact hb wh pins f σ H1 Q I1 d
 | false=>exact⟨H1,I1,d⟩
def Q7(ha:PT X a tA)(hb:PW X (.BoolOp .Or (b::rest) pos) tB'):PW X (.BoolOp .Or (a::b::rest) pos) (Vk tA tB'):=by
 intro wh pins s σ H Q I h;refine isTrue_or (ki (ha pins s σ H _ I h) λc f ⟨H1,I1,d⟩=>?_)
 cases c with
 | true=>exact⟨H1,I1,d⟩
 | false=>exact hb wh pins f σ H1 Q I1 d
def OZ(ha:PT X a tA):PT X (.UnaryOp .Not a pos) (T8 tA):=by
 fin2;exact isTrue_not<|ha pins s σ H (λc H1=>Q (!c) H1) I h
abbrev RQ (ta tb:TE):TE:=λσ H Q=>ta σ H λx H1=>∃c,x=.bl c/\if c=true then tb σ H1 Q else Q (.bl false) H1
abbrev QS (ta:TE):TE:=λσ H Q=>ta σ H λx H1=>∃c,x=.bl c/\Q (.bl<|!c) H1
def Pa{op}{t:TE}(h:PE X a t):PE X (.BoolOp op [a] pos) t:=λpins s σ H Q I hw=>BoolOp_one<|h pins s σ H Q I hw
def QA(ha:PE X a ta)(hb:PE X (.BoolOp .And (b::rest) pos) tb):PE X (.BoolOp .And (a::b::rest) pos) (RQ ta tb):=by
 fin2;refine BoolOp_and<|ki (ha pins s σ H _ I h) λv f ⟨x,H1,I1,r1,d⟩=>?_;obtain⟨c,rfl,d⟩:=d
 cases r1
 refine d7 ?_
 cases c with
 | true=>exact hb pins f σ H1 Q I1 d
 | false=>exact⟨.bl false,H1,I1,rfl,d⟩
def OW(ha:PE X a ta):PE X (.UnaryOp .Not a pos) (QS ta):=by
 fin2;refine UnaryOp_<|ki (ha pins s σ H _ I h) λv f ⟨x,H1,I1,r1,d⟩=>?_;obtain⟨c,rfl,d⟩:=d
 cases r1
 exact not_of<|d7 ⟨.bl<|!c,H1,I1,rfl,d⟩
end
abbrev kP (K:aq)(H:Hp)(a:aj)(xs:List V):Prop:=
 Rd H a (.lst xs) \/
  ∃(o:Obj) (d:Array aa) (n:Nat),K.lookup a=some o/\o.cls=.type "list" /\ o.dict=none/\o.data=.seq d n/\d.size<=sizeLine/\Vals xs d.toList
abbrev m8 (K:aq)(H:Hp)(a:aj)(xs:List V):Prop:=
 Rd H a (.tup xs) \/
  ∃(o:Obj) (d:Array aa) (n:Nat),K.lookup a=some o/\o.cls=.type "tuple" /\ o.dict=none/\o.data=.seq d n/\d.size<=sizeLine/\Vals xs d.toList
abbrev Tv:aa->Option V
 | .none=>some .jC
 | .bool b=>some (.bl b)
 | .int i _=>some (.int i)
 | .str x _=>some (.str x)
 | .bytes b _=>some (.byt b)
 | .float b _=>some (.flt b)
 | .ref a=>some (.ref a)
 | .type n=>some (.ty n)
 | _=>none
def RelV.abs{x:V}(r:RelV x u):Tv u=some x:=by
 cases x with
 | jC=>cases r;rfl
 | bl _=>cases r;rfl
 | int _=>obtain⟨t,rfl⟩:=r;rfl
 | str _=>obtain⟨t,rfl⟩:=r;rfl
 | byt _=>obtain⟨t,rfl⟩:=r;rfl
 | flt _=>obtain⟨t,rfl⟩:=r;rfl
 | ref _=>cases r;rfl
 | ty _=>cases r;rfl
def RelV.inj{x:V}(r:RelV x u)(q:RelV y u):x=y:=aR<|r.abs.symm.trans q.abs
theorem Vals.inj:∀{xs ys:List V}{us:ar},Vals xs us->Vals ys us->xs=ys
 | _,_,_,.nil,.nil=>rfl
 | _,_,_,.cons r t,.cons f d=>by rw[r.inj f,Vals.inj t d]
section
variable {X:Cx}{pins:bt}{σ:St}{H:Hp}{s:aA}{a:aj}{xs ys:List V}
def kP.of{K:aq}(h:H a=some (.lst xs)):kP K H a xs:=.inl<|.inl h
def m8.of{K:aq}(h:H a=some (.tup xs)):m8 K H a xs:=.inl<|.inl h
def Inv.list(I:Inv X pins σ H s)(h:kP X.K H a xs):∃its:ar,Vals xs its/\PlainL s.heap a its.toArray/\xs.length<=sizeLine:=by
 rcases h with h|⟨o,its,n,d,hc,hd,hs,f,r⟩
 ·obtain⟨z,its,n,r,e⟩:=h.ok I.hok;exact⟨its,r,⟨_,n,e,rfl,rfl,rfl⟩,z⟩
 ·refine⟨its.toList,r,⟨o,n,I.wj a o d,hc,hd,by simpa using hs⟩,?_⟩;have e:=r.length;dsimp[dM]at e
  lia
def Inv.tuple(I:Inv X pins σ H s)(h:m8 X.K H a xs):∃its:ar,Vals xs its/\IsTup s.heap a its.toArray/\xs.length<=sizeLine:=by
 rcases h with h|⟨o,its,n,d,hc,_,hs,f,r⟩
 ·obtain⟨z,its,r,p⟩:=h.ok I.hok;exact⟨its,r,p.tup,z⟩
 ·refine⟨its.toList,r,⟨o,I.wj a o d,hc,n,by simpa using hs⟩,?_⟩;have e:=r.length;dsimp[dM]at e
  lia
def Inv.rA(I:Inv X pins σ H s)(h:kP X.K H a xs)(h':kP X.K H a ys):xs=ys:=by
 obtain⟨g,r,⟨o,n,e,_,_,d⟩,_⟩:=I.list h;obtain⟨f,m,⟨o',t,k,_,_,j⟩,_⟩:=I.list h';rw[e]at k;cases k;rw[d]at j
 injection j with q _
 have:g=f:=by simpa using b_ Array.toList q
 subst this;exact r.inj m
def Inv.za(I:Inv X pins σ H s)(h:m8 X.K H a xs)(h':m8 X.K H a ys):xs=ys:=by
 obtain⟨g,r,⟨o,e,_,n,d⟩,_⟩:=I.tuple h;obtain⟨f,m,⟨o',k,_,t,j⟩,_⟩:=I.tuple h';rw[e]at k;cases k;rw[d]at j
 injection j with q _
 have:g=f:=by simpa using b_ Array.toList q
 subst this;exact r.inj m
end
meta abbrev Cx.yu (X:Cx)(E:aa->aA->Prop):Cx:={ X with xe:=E }
meta abbrev Cx.Q0 (X:Cx):Cx:=X.yu λ_ _=>False
def Cx.Ok.yu{X:Cx}(ok:X.Ok)(E:aa->aA->Prop):(X.yu E).Ok:=
 ⟨ok.mod,ok.kind,ok.glob,ok.blt,ok.above,ok.inj,ok.has,ok.cab,ok.hd,ok.frames,ok.stk,ok.exf,ok.bs,ok.bsz,ok.noex,ok.exfs,ok.qo,ok.frf⟩
def Cx.Ok.rF{X:Cx}{E:aa->aA->Prop}(ok:(X.yu E).Ok):X.Ok:=
 ⟨ok.mod,ok.kind,ok.glob,ok.blt,ok.above,ok.inj,ok.has,ok.cab,ok.hd,ok.frames,ok.stk,ok.exf,ok.bs,ok.bsz,ok.noex,ok.exfs,ok.qo,ok.frf⟩
section
variable {X:Cx}{pins:bt}{σ:St}{H:Hp}{s:aA}{E:aa->aA->Prop}
def Inv.yu(I:Inv X pins σ H s)(E:aa->aA->Prop):Inv (X.yu E) pins σ H s:=⟨I.ok.yu E,I.os,I.bare,I.base,I.loc,I.cell,I.free,I.freeC,I.pin,I.hok,I.len⟩
def Inv.rF(I:Inv (X.yu E) pins σ H s):Inv X pins σ H s:=⟨I.ok.rF,I.os,I.bare,I.base,I.loc,I.cell,I.free,I.freeC,I.pin,I.hok,I.len⟩
def SP.rF{f:Flow}(h:SP (X.yu E) pins D f s'):SP X pins D f s':=by
 cases f with
 | next=>obtain⟨d,H',I,q⟩:=h;exact⟨d,H',I.rF,q⟩
 | brk=>obtain⟨d,H',I,q⟩:=h;exact⟨d,H',I.rF,q⟩
 | cont=>obtain⟨d,H',I,q⟩:=h;exact⟨d,H',I.rF,q⟩
 | ret u=>obtain⟨v,d,H',I,r,q⟩:=h;exact⟨v,d,H',I.rF,r,q⟩
def yo.Q0{st:List aE}{t:TS}(h:yo X.Q0 st t):yo X st t:=λpins s σ H D I hw=>
 cE (h pins s σ H D (I.yu _) hw) (λ_ _ q=>q.rF) λ_ _ z=>False.elim z
end
section
variable {X:Cx}{st:aE}{rest:List aE}{t u:TS}{e:aC}{te:TE}{pos:Pos}
abbrev QN:TS:=λD σ H=>D.nx σ H
abbrev RI (t u:TS):TS:=λD σ H=>t { D with nx:=u D } σ H
def Nb:yo X [] QN:=λ_ _ σ H _ I h=>fG ⟨σ,H,I,h⟩
def HN(h1:PS X st t)(h2:yo X rest u):yo X (st::rest) (RI t u):=by
 kst_p;refine wpAny_execs_cons (ki (h1 pins s σ H { D with nx:=u D } I h) λf j q=>?_)
 cases f with
 | next=>
  obtain⟨d,H',g,q⟩:=q;exact h2 pins j d H' D g q
 | ret v=>exact q
 | brk=>exact q
 | cont=>exact q
def FT(h1:PS X st t):yo X [st] t:=by
 kst_p;refine wpAny_execs_cons (ki (h1 pins s σ H D I h) λf d q=>?_)
 cases f with
 | next=>exact fG q
 | ret v=>exact q
 | brk=>exact q
 | cont=>exact q
def Inv.quiet{H:Hp}(I:Inv X pins σ H s):interactive X.env=false:=by simp[interactive,I.ok.kind]
abbrev Q2 (te:TE):TS:=λD σ H=>te σ H λ_ H1=>D.nx σ H1
def ER(he:PE X e te)(hs:swapsWith e none pos.line X.env=pure false:=by rfl):PS X (.Expr e pos) (Q2 te):=by
 kst_p;exact wpAny_Expr_any (ki (he pins s σ H _ I h) λv f ⟨x,H1,I1,r1,d⟩=>⟨σ,H1,I1,d⟩) I.quiet hs
abbrev T4 (te:TE):TS:=λD σ H=>te σ H D.rt
def O0(he:PE X e te):PS X (.Return (some e) pos) (T4 te):=by
 kst_p;exact wpAny_Return_some<|ki (he pins s σ H _ I h) λv f ⟨x,H1,I1,r1,d⟩=>⟨x,σ,H1,I1,r1,d⟩
abbrev Ul (c:TT)(t u:TS):TS:=λD σ H=>c σ H λb H1=>if b=true then t D σ H1 else u D σ H1
def QJ{a:List aE}{tc:TT}(hc:PT X c tc)(ha:yo X a t)(hb:yo X b u):PS X (.If c a b pos) (Ul tc t u):=by
 kst_p;refine wpAny_If (ki (hc pins s σ H _ I h) λd f ⟨H1,I1,g⟩=>?_)
 cases d with
 | true=>exact ha pins f σ H1 D I1 g
 | false=>exact hb pins f σ H1 D I1 g
end
meta abbrev TG:=V->St->Hp->(St->Hp->Prop)->Prop
meta abbrev NH:=List V->St->Hp->(St->Hp->Prop)->Prop
abbrev PG (X:Cx)(target:aC)(t:TG):Prop:=
 ∀(pins:bt) (s:aA) (σ:St) (H:Hp) (v:V) (u:aa) (Q:St->Hp->Prop),Inv X pins σ H s->RelV v u->t v σ H Q ->
  wpAny (model X.prog X.w) X.A (assign target X.env u) (λ_ s'=>∃d H',Inv X pins d H' s'/\Q d H') X.xe s
abbrev Si (X:Cx)(ts:List aC)(t:NH):Prop:=
 ∀(pins:bt) (s:aA) (σ:St) (H:Hp) (vs:List V) (us:ar) (Q:St->Hp->Prop),Inv X pins σ H s->Vals vs us->t vs σ H Q ->
  wpAny (model X.prog X.w) X.A (assignInOrder ((assignEach ts X.env).map (·.2)) us) (λ_ s'=>∃d H',Inv X pins d H' s'/\Q d H') X.xe s
meta abbrev M5:=V->V->V->Hp->(Hp->Prop)->Prop
abbrev Qo (X:Cx)(t:M5):Prop:=
 ∀(pins:bt) (s:aA) (σ:St) (H:Hp) (o i v:V) (d f u:aa) (Q:Hp->Prop),Inv X pins σ H s->RelV o d->RelV i f->RelV v u->t o i v H Q ->
  wpAny (model X.prog X.w) X.A (setItem d f u) (λ_ s'=>∃H',Inv X pins σ H' s'/\Q H') X.xe s
meta abbrev Rb:=V->V->Hp->VK->Prop
abbrev SQ (X:Cx)(op:Operator)(t:Rb):Prop:=
 ∀(pins:bt) (s:aA) (σ:St) (H:Hp) (x y:V) (v u:aa) (Q:VK),Inv X pins σ H s->RelV x v->RelV y u->t x y H Q ->
  wpAny (model X.prog X.w) X.A (inplaceOp op v u) (EP X pins σ Q) X.xe s
section
variable {X:Cx}{pos:Pos}
abbrev ED (i:Nat):TG:=λv σ H Q=>Q (σ.set i<|some v) H
def Ar{i:Nat}{x:Str}(hN:X.N.Nodup)(hi:X.N[i]?=some x)(hx:Loc X.env.scope x)(hf:X.fn x=true\/X.env.scope.names.lookup x=some .local:=by first|exact .inl rfl|exact .inr rfl|assumption):PG X (.Name x pos) (ED i):=by
 intro pins s σ H v u Q I r h;exact wpAny_assign_Name<|rf I hN hi hx r (λs' d=>⟨_,H,d,h⟩) hf
abbrev Td:NH:=λvs σ H Q=>vs=[]/\Q σ H
abbrev Sd (t:TG)(u:NH):NH:=λvs σ H Q=>∃v r,vs=v::r/\t v σ H λd H'=>u r d H' Q
def Me:Si X [] Td:=by
 intro pins s σ H vs us Q I r h;obtain⟨e,h⟩:=h;subst e
 cases r
 exact assignInOrder_nil ⟨σ,H,I,h⟩
def Jf{t:TG}{u:NH}(h1:PG X e t)(h2:Si X es u)
  (hs:(assignEach (e::es) X.env).map (·.2)=assign e X.env::(assignEach es X.env).map (·.2):=by rfl):Si X (e::es) (Sd t u):=by
 intro pins s σ H vs us Q I r h;obtain⟨v,k,e1,h⟩:=h;subst e1
 cases r with
 | cons r g=>
  rw[hs];refine assignInOrder_cons<|ki (h1 pins s σ H _ _ _ I r h) λ_ j ⟨d,H1,I1,f⟩=>?_;exact h2 pins j d H1 _ _ Q I1 g f
abbrev Tr (K:aq)(n:Nat)(t:NH):TG:=λv σ H Q=>∃a xs,v=.ref a/\m8 K H a xs/\xs.length=n/\t xs σ H Q
def Px{k:Nat}{t:NH}{n:Nat}(hc:X.calm=true)(h:Si X es t)
  (hn:(assignEach es X.env).length=n:=by rfl) (hst:(assignEach es X.env).findIdx? (·.1)=none:=by rfl):PG X (.Tuple es k pos) (Tr X.K n t):=by
 intro pins s σ H v u Q I r hw;obtain⟨a,xs,e1,j,g,hw⟩:=hw;subst e1
 cases r
 obtain⟨f,d,m,q⟩:=I.tuple j;refine assign_Tuple_tuple (I.ok.hd hc) m (by simp[hn,<- g,d.length]) hst λh' hx=>?_;have I1:Inv X pins σ H { s with heap:=h' }:=I.kept (t':=s.toks) λb o e=>hx b o (br<|aS e) e;exact h pins _ σ H xs _ Q I1 (by simpa using d) hw
abbrev Tc (to ti:TE)(t:M5):TG:=λv σ H Q=>to σ H λo H1=>ti σ H1 λi H2=>t o i v H2 λd=>Q σ d
def Ou{to ti:TE}{t:M5}(ho:PE X o to)(hi:PE X i ti)(hs:Qo X t)
  (ha:∀v,assign (.Subscript o i pos) X.env v=(do
   let ov <- holding [v] (eval o X.env)
   let iv <- holding [v,ov] (eval i X.env)
   standAt pos
   holding [v,ov,iv] (setItem ov iv v)
   release [v,ov,iv] []):=by intro _;rfl):PG X (.Subscript o i pos) (Tc to ti t):=by
 intro pins s σ H v u Q I r h;rw[ha];refine aI<|cL<|ki (ho pins s σ H _ I h) λov m ⟨x,H1,I1,r1,j⟩=>?_;refine aI<|cL<|ki (hi pins m σ H1 _ I1 j) λiv d ⟨y,H2,q,r2,g⟩=>?_;refine aI<|cz<|aI<|cL<|ki (hs pins d σ H2 x y v ov iv u _ q r1 r2 r g) λ_ z ⟨k,I3,f⟩=>?_;exact wpAny_release ⟨σ,k,I3,f⟩
abbrev IX (te:TE)(g:TG):TS:=λD σ H=>te σ H λx H1=>g x σ H1 D.nx
def O5{tg:aC}{te:TE}{g:TG}(he:PE X e te)(hg:PG X tg g)(hs:swapsWithSole [tg] e pos.line X.env=pure false:=by rfl)(hw:swappedStores [tg] e X.env=pure none:=by rfl)
  (h1:(assignEach [tg] X.env).map (·.2)=[assign tg X.env]:=by rfl):PS X (.Assign [tg] e pos) (IX te g):=by
 kst_p;refine wpAny_Assign_stores (ki (he pins s σ H _ I h) λv d ⟨x,H1,I1,r1,f⟩=>?_) hs hw;rw[h1];exact ki (hg pins d σ H1 x v _ I1 r1 f) λ_ j q=>q
def OQ{i:Nat}{x:Str}{te:TE}(hN:X.N.Nodup)(hi:X.N[i]?=some x)(hx:Loc X.env.scope x)(he:PE X e te)(hs:swapsWith e (some<|.Name x pos') pos.line X.env=pure false:=by rfl)(hf:X.fn x=true\/X.env.scope.names.lookup x=some .local:=by first|exact .inl rfl|exact .inr rfl|assumption) :
  PS X (.Assign [.Name x pos'] e pos) (IX te<|ED i):=by
 kst_p;refine wpAny_Assign_Name (ki (he pins s σ H _ I h) λv j ⟨y,H1,I1,r1,f⟩=>?_) hs;exact rf I1 hN hi hx r1 (λg d=>⟨_,H1,d,f⟩) hf
abbrev UE (i:Nat)(te:TE)(ti:Rb):TS:=λD σ H=>∃x,σ[i]?=some (some x)/\te σ H λy H1=>ti x y H1 λz H2=>D.nx (σ.set i<|some z) H2
def Qi{i:Nat}{x:Str}{te:TE}{ti:Rb}(hN:X.N.Nodup)(hi:X.N[i]?=some x)(hx:Loc X.env.scope x)(he:PE X e te)(ho:SQ X op ti)(hf:X.fn x=true\/X.env.scope.names.lookup x=some .local:=by first|exact .inl rfl|exact .inr rfl|assumption) :
  PS X (.AugAssign (.Name x pos') op e pos) (UE i te ti):=by
 kst_p;obtain⟨v,e1,h⟩:=h;obtain⟨m,hn,F⟩:=I.loc;have q:Rg X.env.scope x:=by rcases hx with k|k;exact .inl k;exact .inr (.inl k)
 obtain⟨u,r,l⟩:=F i x v hi e1 q;refine wpAny_AugAssign_Name ?_;have t:wpAny (model X.prog X.w) X.A (eval e X.env) (λw j=>wpAny (model X.prog X.w) X.A (inplaceOp op u w) (λr g=>wpAny (model X.prog X.w) X.A (storeName X.env x r) (λ_=>SP X pins D .next) X.xe g) X.xe j) X.xe s:=by
  refine ki (he pins s σ H _ I h) λw G ⟨y,H1,I1,r1,C⟩=>?_;refine ki (ho pins G σ H1 v y u w _ I1 r r1 C) λz K ⟨O,H2,J,r2,B⟩=>?_;exact rf J hN hi hx r2 (λL I3=>⟨_,H2,I3,B⟩) hf
 rcases l with⟨d,hm⟩|⟨d,c,hc,f⟩
 ·exact wpAny_loadName_local I.ok.kind d hn hm t
 ·rcases d with d|d
  ·exact wpAny_loadName_cell I.ok.kind d hc f t
  ·rcases hx with k|k
   ·have:X.env.scope.names.lookup x=some .free:=d;rw[k]at this;cases this
   ·have:X.env.scope.names.lookup x=some .free:=d;rw[k]at this;cases this
abbrev Vt (f:Int->Int->Int):Rb:=λx y H Q=>∃i j,x=.int i/\y=.int j/\Q (.int<|f i j) H
def Qc:SQ X .Sub (Vt λi j=>i-j):=by
 intro pins s σ H x y v u Q I r1 r2 h;obtain⟨i,j,e1,e2,q⟩:=h;subst e1;subst e2;obtain⟨t,rfl⟩:=r1;obtain⟨d,rfl⟩:=r2;exact isub_int ⟨.int _,H,I.tok _,⟨_,rfl⟩,q⟩
end
section
variable {X:Cx}{pos:Pos}
abbrev Kg (c:TT)(tb:TS):TS:=λD σ H=>∃W:Nat->St->Hp->Prop,(∃m,W m σ H)/\∀m σ H,W m σ H ->
 c σ H λb H1=>if b=true then ∃N:St->Hp->Prop,(∀d H',N d H'->∃m',m'<m/\W m' d H')/\tb { D with nx:=N,ct:=N,bk:=D.nx } σ H1 else D.nx σ H1
def HW{tc:TT}{tb:TS}(hp:PassesOwn (model X.prog X.w) X.A X.env X.xe)(hc:PT X c tc)(hb:yo X body tb):PS X (.While c body [] pos) (Kg tc tb):=by
 kst_p;obtain⟨W,⟨J,O⟩,m⟩:=h;refine wpAny_While<|codeAny_whileLoop (λn s'=>∃j H',Inv X pins j H' s'/\W n j H') ?_ J ⟨σ,H,I,O⟩;rintro n K ⟨g,H1,I1,L⟩;refine dY hp (ki (hc pins K g H1 _ I1<|m n g H1 L) λb G ⟨H2,F,q⟩=>?_)
 cases b with
 | true=>
  obtain⟨N,C,q⟩:=q;rw[bf rfl];refine dY hp (ki (hb pins G g H2 _ F q) λf P t=>?_)
  cases f with
  | next=>
   obtain⟨d,k,I3,z⟩:=t;obtain⟨m',hm,B⟩:=C d k z;exact⟨m',hm,d,k,I3,B⟩
  | cont=>
   obtain⟨d,k,I3,z⟩:=t;obtain⟨m',hm,B⟩:=C d k z;exact⟨m',hm,d,k,I3,B⟩
  | brk=>exact t
  | ret v=>exact t
 | false=>
  rw[bu bz];exact fG ⟨g,H2,F,q⟩
end
structure It where
 go:Nat->Hp->Prop
 yld:Nat->Hp->V->Hp->Prop
 stop:Nat->Hp->Prop
abbrev oS (X:Cx)(pins:bt)(H:Hp)(b:aj):Prop:=
 H b=none/\b≠X.env.locals/\b∉X.fs/\(b∈X.ex\/X.s₀.heap.objs.size<=b)/\(∀x c,X.env.cells.lookup x=some c->c≠b)/\∀p∈X.pn++pins,p.1≠b
def Inv.yk{H H':Hp}{s:aA}(I:Inv X pins σ H s)(hb:s.heap.objs.size<=b)(hn:H' b=none):oS X pins H' b:=by
 refine⟨hn,gK<|bH I.lt hb,I.Tt hb,.inr<|bX I.sz hb,λx c e z=>?_,λp hp z=>?_⟩
 ·obtain⟨v,q⟩:=I.cell x c e;exact absurd (bH q.lt<|by rw[z];exact hb) (cK _)
 ·exact absurd (bH (aS (I.pin p hp).1)<|by rw[z];exact hb)<|cK _
structure Turn (P:ah)(w:af)(K:aq)(tg:aC)(J:It)(fp:ba)(it:aj)(tn:Nat->ak->Prop):Prop where
 mem:it∈fp
 obj:∀i h,tn i h->∀b∈fp,∃o,h.get? b=some o/\∀v,o.data≠.cell v
 keep:∀i h h',tn i h->(∀b∈fp,∀o,h.get? b=some o->h'.get? b=some o)->tn i h'
 item:∀(X:Cx),X.prog=P->X.w=w->X.K=K->X.calm=true->∀(i:Nat) (pins:bt) (s:aA) (σ:St) (H:Hp) (E:aa->aA->Prop),Inv X pins σ H s->(∀b∈fp,oS X pins H b)->tn i s.heap->J.go i H ->
  wpAny (model P w) X.A (pyNext<|.ref it) (λr s1=>∃u,r=some u /\
   wpAny (model P w) X.A (letOwnedTupleGo tg (.ref it) u) (λ_ s2=>∃x H',Inv X pins σ H' s2/\RelV x u/\J.yld i H x H'/\tn (i+1) s2.heap/\∀b∈fp,H' b=none) E s1) E s
 done:∀(X:Cx),X.prog=P->X.w=w->X.K=K->X.calm=true->∀(i:Nat) (pins:bt) (s:aA) (σ:St) (H:Hp) (E:aa->aA->Prop),Inv X pins σ H s->(∀b∈fp,oS X pins H b)->tn i s.heap->J.stop i H ->
  wpAny (model P w) X.A (pyNext<|.ref it) (λr s1=>r=none/\Inv X pins σ H s1) E s
 self:∀(A:au) (i:Nat) (s:aA) (Q:aa->aA->Prop) (E:aa->aA->Prop),tn i s.heap->Q (.ref it) s->wpAny (model P w) A (pyIter<|.ref it) Q E s
meta abbrev TI:=St->Hp->(It->Hp->Prop)->Prop
abbrev T7 (X:Cx)(pins:bt)(σ:St)(tg:aC)(R:It->Hp->Prop)(itv:aa)(s2:aA):Prop:=
 ∃(it:aj) (fp:ba) (d:Nat->ak->Prop) (J:It) (H':Hp),itv=.ref it/\Inv X pins σ H' s2/\Turn X.prog X.w X.K tg J fp it d/\d 0 s2.heap/\(∀b∈fp,oS X pins H' b)/\R J H'
abbrev PI (X:Cx)(tg iter:aC)(wi:TI):Prop:=
 ∀(pins:bt) (s:aA) (σ:St) (H:Hp) (R:It->Hp->Prop),Inv X pins σ H s->wi σ H R ->
  wpAny (model X.prog X.w) X.A (eval iter X.env) (λv d=>wpAny (model X.prog X.w) X.A (pyIter v) (T7 X pins σ tg R) X.xe d) X.xe s
def yW{A:au}{E:aa->aA->Prop}{s:aA}{o:Obj}{n:String}{Q:Unit->aA->Prop}(ho:s.heap.get? it=some o)(hc:o.cls=.type n)(hd:o.data=.fields vs)
  (hn:["enumerate", "zip", "dict_itemiterator", "dict_reverseitemiterator", "odict_iterator", "itertools.zip_longest", "itertools.pairwise"].contains n=false) (hQ:Q Unit.unit s):wpAny M A (letOwnedTupleGo tg (.ref it) u) Q E s:=by
 unfold letOwnedTupleGo
 cases tg<;>first
  | exact aM hQ
  | (cases u<;>first
    | exact aM hQ
    | (refine aI (wpAny_load ho ?_)
       rw[hc,hd];show wpAny M A (if (["enumerate", "zip", "dict_itemiterator", "dict_reverseitemiterator", "odict_iterator", "itertools.zip_longest", "itertools.pairwise"].contains n && vs[0]? == some (rawInt _))=true then _ else _) Q E s;rw[bu<|by intro h;rw[hn,bW]at h;cases h];exact aM hQ))
abbrev QU (K:aq)(a:aj):It:=
 ⟨λi H=>∃xs x,kP K H a xs/\xs[i]?=some x,λi H x H'=>H'=H/\∀xs,kP K H a xs->xs[i]?=some x,λi H=>∃xs,kP K H a xs/\xs.length<=i⟩
abbrev T5 (K:aq)(a:aj):It:=
 ⟨λi H=>∃xs x,m8 K H a xs/\xs[i]?=some x,λi H x H'=>H'=H/\∀xs,m8 K H a xs->xs[i]?=some x,λi H=>∃xs,m8 K H a xs/\xs.length<=i⟩
abbrev RN (lo:Int)(n:Nat):It:=⟨λi _=>i<n,λi H x H'=>H'=H/\x=.int (lo+i),λi _=>n<=i⟩
def u5{P:ah}{w:af}{K:aq}(a it:aj):Turn P w K tg (QU K a) [it] it (λi h=>h.IsListIter it a i) where
 mem:=by simp
 obj:=λi h st b hb=>by
  have e:b=it:=by simpa using hb
  subst e;obtain⟨o,e,c,d⟩:=st;exact⟨o,e,λv z=>by rw[d]at z;cases z⟩
 keep:=λi h h' st k=>st.at λo e=>k it (by simp) o e
 item:=by
  z_go;subst hP hw hK;obtain⟨xs,x,g,hx⟩:=hg;obtain⟨j,m,p,F⟩:=I.list g;obtain⟨u,t,C⟩:=m.get hx;w_up;refine wpAny_pyNext_list_item st p.isList (x:=u) (by simpa using t) λh' f q=>?_;have I1:Inv X pins σ H { s with heap:=h' }:=I.turned (t':=s.toks) (λb o hb e=>(q.2 b hb).trans e) f0 f1 f3 f4 f5;obtain⟨o,e,c,d⟩:=id f;exact⟨u,rfl,yW (s:={ s with heap:=h' }) e c d ⋯ ⟨x,H,I1,C,⟨rfl,λys hy=>by rw[I.rA hy g];exact hx⟩,f,λb hb=>(hf b hb).1⟩⟩
 done:=by
  z_go;subst hP hw hK;obtain⟨xs,g,hx⟩:=hg;obtain⟨j,m,p,F⟩:=I.list g;w_up;have G:=m.length;exact wpAny_pyNext_list_end (I.ok.hd hc) st p.isList (by simp;omega) λh' B=>⟨rfl,I.turned (t':=s.toks) (λb o hb e=>B b o hb e) f0 f1 f3 f4 f5⟩
 self:=λ_ _ _ _ _ st h=>wpAny_pyIter_listiter st h
def CG{P:ah}{w:af}{K:aq}(a it:aj):Turn P w K tg (T5 K a) [it] it (λi h=>h.IsTupleIter it a i) where
 mem:=by simp
 obj:=λi h st b hb=>by
  have e:b=it:=by simpa using hb
  subst e;obtain⟨o,e,c,d⟩:=st;exact⟨o,e,λv z=>by rw[d]at z;cases z⟩
 keep:=λi h h' st k=>st.at λo e=>k it (by simp) o e
 item:=by
  z_go;subst hP hw hK;obtain⟨xs,x,j,hx⟩:=hg;obtain⟨f,m,p,F⟩:=I.tuple j;obtain⟨u,t,C⟩:=m.get hx;w_up;refine wpAny_pyNext_tuple_item st (show s.heap.IsTuple a f.toArray from p) (x:=u) (by simpa using t) λh' g q=>?_;have I1:Inv X pins σ H { s with heap:=h' }:=I.turned (t':=s.toks) (λb o hb e=>(q.2 b hb).trans e) f0 f1 f3 f4 f5;obtain⟨o,e,c,d⟩:=id g;exact⟨u,rfl,yW (s:={ s with heap:=h' }) e c d ⋯ ⟨x,H,I1,C,⟨rfl,λys hy=>by rw[I.za hy j];exact hx⟩,g,λb hb=>(hf b hb).1⟩⟩
 done:=by
  z_go;subst hP hw hK;obtain⟨xs,j,hx⟩:=hg;obtain⟨f,m,p,F⟩:=I.tuple j;w_up;have G:=m.length;exact wpAny_pyNext_tuple_end (I.ok.hd hc) st (show s.heap.IsTuple a f.toArray from p) (by simp;omega) λh' B=>⟨rfl,I.turned (t':=s.toks) (λb o hb e=>B b o hb e) f0 f1 f3 f4 f5⟩
 self:=λ_ _ _ _ _ st h=>wpAny_pyIter_tupleiter st h
def CP{P:ah}{w:af}{K:aq}(it:aj)(lo:Int)(n:Nat):Turn P w K tg (RN lo n) [it] it (λi h=>IsRangeIter h it (lo+(i:Nat) * 1) ((n:Int)-(i:Nat)) 1) where
 mem:=by simp
 obj:=λi h st b hb=>by
  have e:b=it:=by simpa using hb
  subst e;exact⟨_,st,λv z=>by
   have g:Data.fields _=Data.cell v:=z
   cases g⟩
 keep:=λi h h' st k=>k it (by simp) _ st
 item:=by
  z_go;subst hP hw hK;w_up;have W:=Walks.range (prog:=X.prog) (w:=X.w) (I.ok.hd hc) it lo 1 n;refine W.item i s _ _ hg st λv h' f hv d kk=>?_;obtain⟨t,rfl⟩:=hv;have I1:Inv X pins σ H { s with heap:=h',toks:=f }:=I.turned (λb o hb e=>kk b o (by simpa using hb) e) f0 f1 f3 f4 f5;refine⟨_,rfl,yW (s:={ s with heap:=h',toks:=f }) (n := "range_iterator") d rfl rfl ⋯ ⟨.int<|lo+i,H,I1,⟨t,?_⟩,⟨rfl,rfl⟩,d,λb hb=>(hf b hb).1⟩⟩;rw[Int.mul_one]
 done:=by
  z_go;subst hP hw hK;w_up;exact wpAny_pyNext_range_end (I.ok.hd hc) st (by have:n<=i:=hg;lia) λh' j=>⟨rfl,I.turned (t':=s.toks) (λb o hb e=>j b o hb e) f0 f1 f3 f4 f5⟩
 self:=λ_ _ _ _ _ st h=>wpAny_pyIter_rangeiter st h
section
variable {X:Cx}{tg:aC}
abbrev NP (K:aq)(tl:TE):TI:=λσ H R=>tl σ H λx H1=>∃a,x=.ref a/\(∃xs,kP K H1 a xs)/\R (QU K a) H1
abbrev To (K:aq)(tl:TE):TI:=λσ H R=>tl σ H λx H1=>∃a,x=.ref a/\(∃xs,m8 K H1 a xs)/\R (T5 K a) H1
def EO{tl:TE}(hl:PE X l tl):PI X tg l (NP X.K tl):=by
 intro pins s σ H R I h;refine ki (hl pins s σ H _ I h) λv d ⟨x,H1,I1,r1,f⟩=>?_;obtain⟨a,e,⟨xs,j⟩,q⟩:=f;subst e
 cases r1
 obtain⟨g,k,p,m⟩:=I1.list j;refine fR p.isList ?_;refine⟨d.heap.objs.size,[d.heap.objs.size],_,_,H1,rfl,I1.kept (t':=d.toks) λb o e=>aK _ e,u5 a _,⟨_,bC _ rfl,rfl,rfl⟩,λb hb=>?_,q⟩;have e:b=d.heap.objs.size:=by simpa using hb
 subst e;kl_no
def IG{tl:TE}(hl:PE X l tl):PI X tg l (To X.K tl):=by
 intro pins s σ H R I h;refine ki (hl pins s σ H _ I h) λv d ⟨x,H1,I1,r1,g⟩=>?_;obtain⟨a,e,⟨xs,j⟩,q⟩:=g;subst e
 cases r1
 obtain⟨f,k,p,m⟩:=I1.tuple j;refine wpAny_pyIter_tuple (show d.heap.IsTuple a f.toArray from p) ?_;refine⟨d.heap.objs.size,[d.heap.objs.size],_,_,H1,rfl,I1.kept (t':=d.toks) λb o e=>aK _ e,CG a _,⟨_,bC _ rfl,rfl,rfl⟩,λb hb=>?_,q⟩;have e:b=d.heap.objs.size:=by simpa using hb
 subst e;kl_no
def By{H:Hp}{s:aA}{R:It->Hp->Prop}{E:aa->aA->Prop}{lo hi:Int}{v:Tok}{tk:Nat}(I:Inv X pins σ H s)(h1:-(2 ^ 62)<=lo)(h2:lo<2 ^ 62)(h3:-(2 ^ 62)<=hi)(h4:hi<2 ^ 62)
  (q:R (RN lo (hi-lo).toNat) H):wpAny (model X.prog X.w) X.A (pyIter<|.ref s.heap.objs.size) (T7 X pins σ tg R) E { s with heap:=s.heap.push { cls:=.type "range",data:=.fields #[.int lo t,.int hi u,.int 1 v]},toks:=tk }:=by
 refine wpAny_pyIter_range (IsRange.new ..) (small_one h1 h2 h3 h4) ?_;have I1:Inv X pins σ H { s with heap:=s.heap.push { cls:=.type "range",data:=.fields #[.int lo t,.int hi u,.int 1 v]},toks:=tk }:=I.kept λb o e=>aK _ e;refine⟨(s.heap.push { cls:=.type "range",data:=.fields #[.int lo t,.int hi u,.int 1 v]}).objs.size,[(s.heap.push { cls:=.type "range",data:=.fields #[.int lo t,.int hi u,.int 1 v]}).objs.size],_,_,H,rfl,
  I1.kept (t':=tk) λb o e=>aK _ e,CP _ lo (hi-lo).toNat,?_,λb hb=>?_,q⟩
 ·have e1:lo+((0:Nat):Int) * 1=lo:=by simp
  have e2:(((hi-lo).toNat:Nat):Int)-((0:Nat):Int)=Builtin.Range.rangeSize lo hi 1:=by rw[rangeSize_one];split<;>lia
  skip
  rw[e1,e2];exact bC _ rfl
 ·have e:b=(s.heap.push { cls:=.type "range",data:=.fields #[.int lo t,.int hi u,.int 1 v]}).objs.size:=by simpa using hb
  subst e;kl_no
abbrev mY (ta:TA):TI:=λσ H R=>ta σ H λvs H1=>∃j:Int,vs=[.int j]/\-(2 ^ 62)<=j/\j<2 ^ 62/\R (RN 0 j.toNat) H1
abbrev vQ (ta:TA):TI:=λσ H R=>ta σ H λvs H1=>∃i j:Int,vs=[.int i,.int j]/\(-(2 ^ 62)<=i/\i<2 ^ 62/\-(2 ^ 62)<=j/\j<2 ^ 62)/\R (RN i (j-i).toNat) H1
def G3{a:aC}{ta:TA}{p:Pos}(hg:Gl X "range")(hm:X.mg "range" = none)(ha:PA X [a] ta)(hs:starEach [a] X.env=[(false,eval a X.env)]:=by rfl):PI X tg (.Call (.Name "range" p) [a] [] pos) (mY ta):=by
 intro pins s σ H R I h;refine Call_<|qV I hg hm boot_range<|cR (ki (ha pos pins s σ H _ I h) λus k ⟨vs,H1,I1,r1,d⟩=>?_) hs rfl;obtain⟨j,e,d,f,q⟩:=d;subst e
 cases r1 with
 | cons r g=>
  cases g
  obtain⟨t,rfl⟩:=r;exact call_range_1<|By I1 () () d f<|by simpa using q
def GB{a b:aC}{ta:TA}{p:Pos}(hg:Gl X "range")(hm:X.mg "range" = none)(ha:PA X [a,b] ta)(hs:starEach [a,b] X.env=[(false,eval a X.env),(false,eval b X.env)]:=by rfl)(hs2:starEach [b] X.env=[(false,eval b X.env)]:=by rfl) :
  PI X tg (.Call (.Name "range" p) [a,b] [] pos) (vQ ta):=by
 intro pins s σ H R I h;refine Call_ (qV I hg hm boot_range<|cR (ki (ha pos pins s σ H _ I h) λus B ⟨vs,H1,I1,r1,d⟩=>?_) (by rw[hs,hs2])<|by rw[hs2];rfl);obtain⟨i,j,e,⟨d,m,k,z⟩,q⟩:=d;subst e
 cases r1 with
 | cons r f=>
  cases f with
  | cons g f=>
   cases f
   obtain⟨t,rfl⟩:=r;obtain⟨C,rfl⟩:=g;exact call_range_2<|By I1 d m k z q
abbrev T_ (wi:TI)(g:TG)(tb:TS):TS:=λD σ H=>wi σ H λJ H1=>∃W:Nat->Nat->St->Hp->Prop,(∃m,W 0 m σ H1)/\∀i m σ H,W i m σ H ->
 (J.stop i H/\D.nx σ H)\/(J.go i H/\∃N:St->Hp->Prop,(∀d H',N d H'->∃m',m'<m/\W (i+1) m' d H')/\∀x H',J.yld i H x H'->g x σ H' λf H2=>tb { D with nx:=N,ct:=N,bk:=D.nx } f H2)
abbrev qv (fp:ba)(h:ak):bt:=fp.filterMap λb=>(h.get? b).map λo=>(b,o)
def jK{fp:ba}{h:ak}{b:aj}(hb:b∈fp)(e:h.get? b=some o):(b,o)∈qv fp h:=fM.mpr ⟨b,hb,by rw[e];rfl⟩
def Gj{fp:ba}{h:ak}{p:aj×Obj}(hp:p∈qv fp h):p.1∈fp/\h.get? p.1=some p.2:=by
 obtain⟨b,hb,e⟩:=fM.mp hp
 cases q:h.get? b with
 | none=>rw[q]at e;cases e
 | some o=>
  rw[q]at e;have d:(b,o)=p:=aR e;subst d;exact⟨hb,q⟩
def Inv.pinned{H:Hp}{s:aA}{fp:ba}(I:Inv X pins σ H s)(hf:∀b∈fp,oS X pins H b)(ho:∀b∈fp,∃o,s.heap.get? b=some o/\∀v,o.data≠.cell v):Inv X (pins++qv fp s.heap) σ H s:=
 I.DW λp hp=>(bT.mp hp).elim (λz=>I.pin p<|aU _ z) λz=>by
  obtain⟨hb,e⟩:=Gj z;obtain⟨f0,f1,f2,_⟩:=hf p.1 hb;obtain⟨o,f,d⟩:=ho p.1 hb;rw[e]at f;cases f;exact⟨e,f0,f1,f2,d⟩
def Inv.lI{H:Hp}(I:Inv X (pins++pl) σ H s):Inv X pins σ H s:=I.DW λp hp=>I.pin p<|aU _<|cC _ hp
def Qh{iter:aC}{wi:TI}{g:TG}{tb:TS}(hp:PassesOwn (model X.prog X.w) X.A X.env X.xe)(hc:X.calm=true)(hi:PI X tg iter wi)(hg:PG X tg g)(hb:yo X body tb)
  (hs:∀x,foldedSetIterable iter X.env x=pure x:=by intro _;rfl):PS X (.For tg iter body [] pos) (T_ wi g tb):=by
 kst_p;refine wpAny_For (ki (hi pins s σ H _ I h) λv s1 h1=>ki h1 λitv s2 h2=>?_) hs;obtain⟨it,fp,tn,J,H2,e,I2,T,Z,f2,W,⟨m0,w0⟩,F⟩:=h2;subst e;have k:∀{H':Hp},(∀b∈fp,H' b=none)->∀b∈fp,oS X pins H' b:=λhn b hb=>⟨hn b hb,(f2 b hb).2⟩;refine codeAny_forLoop_any (λn s'=>∃i t H',Inv X pins t H' s'/\tn i s'.heap/\(∀b∈fp,H' b=none)/\W i n t H') ?_ m0 ⟨0,σ,H2,I2,Z,λb hb=>(f2 b hb).1,w0⟩;rintro n s3 ⟨i,q,O,I3,K,C,w3⟩
 rcases F i n q O w3 with⟨G,qn⟩|⟨go,N,hN,step⟩
 ·refine dY hp<|ki (T.done X rfl rfl rfl hc i pins s3 q O X.xe I3 (k C) K G) λr s4 ⟨Y,I4⟩=>?_;subst Y;exact fG ⟨q,O,I4,qn⟩
 ·refine dY hp<|ki (T.item X rfl rfl rfl hc i pins s3 q O X.xe I3 (k C) K go) λr s4 ⟨u,Y,h4⟩=>?_;subst Y;refine dY hp<|ki h4 λ_ s5 ⟨x,H5,I5,r5,y5,B,U⟩=>?_;have V:=I5.pinned (k U)<|T.obj _ _ B;refine dY hp<|ki (hg _ s5 q H5 x u _ V r5<|step x H5 y5) λ_ s6 ⟨P,H6,I6,q6⟩=>?_;refine dY hp<|ki (hb _ s6 P H6 _ I6 q6) λf s7 z=>?_;have again:∀{j:St} {H7:Hp},Inv X (pins++qv fp s5.heap) j H7 s7->N j H7->∃m,m<n/\∃i t H',Inv X pins t H' s7/\tn i s7.heap/\(∀b∈fp,H' b=none)/\W i m t H':=λ{j H7} I7 L=>by
   obtain⟨m',hm,w7⟩:=hN j H7 L;refine⟨m',hm,i+1,j,H7,I7.lI,T.keep _ _ _ B λb hb o e=>(I7.pin (b,o)<|aU _<|aU _<|jK hb e).1,λb hb=>?_,w7⟩;obtain⟨o,e,d⟩:=T.obj _ _ B b hb;exact(I7.pin (b,o)<|aU _<|aU _<|jK hb e).2.1
  cases f with
  | next=>obtain⟨j,H7,I7,L⟩:=z;exact again I7 L
  | cont=>obtain⟨j,H7,I7,L⟩:=z;exact again I7 L
  | brk=>obtain⟨j,H7,I7,z⟩:=z;exact⟨j,H7,I7.lI,z⟩
  | ret v=>obtain⟨x7,j,H7,I7,r7,z⟩:=z;exact⟨x7,j,H7,I7.lI,r7,z⟩
end
def xQ{c:TT}{tb:TS}{D:Ends}{H:Hp}(Pv:St->Hp->Prop)(μ:St->Hp->Nat)(h0:Pv σ H)
  (hs:∀σ H,Pv σ H->c σ H λb H1=>if b=true then tb { D with nx:=λσ' H'=>Pv σ' H'/\μ σ' H'<μ σ H,ct:=λσ' H'=>Pv σ' H'/\μ σ' H'<μ σ H,bk:=D.nx } σ H1 else D.nx σ H1)
  (mono:∀σ H Q Q',(∀b H1,Q b H1->Q' b H1)->c σ H Q->c σ H Q'):Kg c tb D σ H:=by
 refine⟨λm σ H=>m=μ σ H/\Pv σ H,⟨_,rfl,h0⟩,?_⟩;rintro m σ H ⟨rfl,p⟩;refine mono σ H _ _ (λb H1 q=>?_) (hs σ H p)
 cases b with
 | true=>exact⟨_,λσ' H' ⟨d,l⟩=>⟨_,l,rfl,d⟩,q⟩
 | false=>exact q
meta abbrev R2:=V->V->Hp->VK->Prop
abbrev nO (X:Cx)(f:aa->aa->Sem aa)(r:R2):Prop:=
 ∀(pins:bt) (s:aA) (σ:St) (H:Hp) (x y:V) (v u:aa) (Q:VK),Inv X pins σ H s->RelV x v->RelV y u->r x y H Q ->
  wpAny (model X.prog X.w) X.A (f v u) (EP X pins σ Q) X.xe s
abbrev SS (X:Cx)(f:aa->Sem aa)(r:V->Hp->VK->Prop):Prop:=
 ∀(pins:bt) (s:aA) (σ:St) (H:Hp) (x:V) (v:aa) (Q:VK),Inv X pins σ H s->RelV x v->r x H Q ->
  wpAny (model X.prog X.w) X.A (f v) (EP X pins σ Q) X.xe s
abbrev jH (X:Cx)(f:aa)(r:List V->Hp->VK->Prop):Prop:=
 ∀(pins:bt) (s:aA) (σ:St) (H:Hp) (xs:List V) (us:ar) (Q:VK),Inv X pins σ H s->Vals xs us->r xs H Q ->
  wpAny (model X.prog X.w) X.A (call f us) (EP X pins σ Q) X.xe s
abbrev Ud (X:Cx)(r:V->Hp->(Bool->Hp->Prop)->Prop):Prop:=
 ∀(pins:bt) (s:aA) (σ:St) (H:Hp) (x:V) (v:aa) (Q:Bool->Hp->Prop),Inv X pins σ H s->RelV x v->r x H Q ->
  wpAny (model X.prog X.w) X.A (truthy v) (TP X pins σ Q) X.xe s
abbrev Q6 (r:R2)(ta tb:TE):TE:=λσ H Q=>ta σ H λx H1=>tb σ H1 λy H2=>r x y H2 Q
abbrev U9 (r:V->Hp->VK->Prop)(ta:TE):TE:=λσ H Q=>ta σ H λx H1=>r x H1 Q
abbrev rI (C:Int->Int->Prop)(g:Int->Int->V):R2:=λx y H Q=>∃i j,x=.int i/\y=.int j/\C i j/\Q (g i j) H
abbrev Og (g:Int->Int->V):R2:=λx y H Q=>∃i j,x=.int i/\y=.int j/\Q (g i j) H
abbrev rU (g:Int->V):V->Hp->VK->Prop:=λx H Q=>∃i,x=.int i/\Q (g i) H
section
variable {X:Cx}{a b:aC}{ta tb:TE}{pos:Pos}
def O4(ha:PE X a ta)(hb:PE X b tb){H:Hp}{R:V->V->Hp->Prop}(I:Inv X pins σ H s)
  (h:ta σ H λx H1=>tb σ H1 λy H2=>R x y H2) {Q:aa->aA->Prop} {f:aa->aa->Sem aa}
  (hf:∀v u s2 x y H2,Inv X pins σ H2 s2->RelV x v->RelV y u->R x y H2->wpAny (model X.prog X.w) X.A (f v u) Q X.xe s2) :
  wpAny (model X.prog X.w) X.A (eval a X.env) (λv s₁=>wpAny (model X.prog X.w) X.A (eval b X.env) (λu s₂=>wpAny (model X.prog X.w) X.A (f v u) Q X.xe s₂) X.xe s₁) X.xe s:=by
 refine ki (ha pins s σ H _ I h) λv g ⟨x,H1,I1,r1,k⟩=>?_;refine ki (hb pins g σ H1 _ I1 k) λu s2 ⟨y,H2,d,r2,j⟩=>?_;exact hf v u s2 x y H2 d r1 r2 j
def Rj{r:R2}(ho:nO X (binaryOp op) r)(ha:PE X a ta)(hb:PE X b tb):PE X (.BinOp a op b pos) (Q6 r ta tb):=by
 fin2;exact wpAny_BinOp<|O4 ha hb I h λv u d x y H2 f rx ry q=>ho pins d σ H2 x y v u Q f rx ry q
def HE{r:V->Hp->VK->Prop}(ho:SS X (unaryOp op) r)(ha:PE X a ta):PE X (.UnaryOp op a pos) (U9 r ta):=by
 fin2;exact UnaryOp_<|ki (ha pins s σ H _ I h) λv d ⟨x,H1,I1,r1,f⟩=>ho pins d σ H1 x v Q I1 r1 f
def SH{f:aa->aa->Sem aa}{C:Int->Int->Prop}{g:Int->Int->Int}
  (rule:∀(i j:Int) (t u:Tok) (s:aA) (Q:aa->aA->Prop) (E:aa->aA->Prop),C i j->Q (.int (g i j) s.toks) { s with toks:=s.toks+1 }->wpAny (model X.prog X.w) X.A (f (.int i t)<|.int j u) Q E s) :
  nO X f (rI C λi j=>.int<|g i j):=by
 ksr_p;obtain⟨i,j,rfl,rfl,hc,q⟩:=h;obtain⟨t,rfl⟩:=rx;obtain⟨d,rfl⟩:=ry;exact rule i j t d s _ _ hc ⟨.int<|g i j,H,I.tok _,⟨_,rfl⟩,q⟩
def RM{f:aa->aa->Sem aa}{g:Int->Int->Int}
  (rule:∀(i j:Int) (t u:Tok) (s:aA) (Q:aa->aA->Prop) (E:aa->aA->Prop),Q (.int (g i j) s.toks) { s with toks:=s.toks+1 }->wpAny (model X.prog X.w) X.A (f (.int i t)<|.int j u) Q E s) :
  nO X f (Og λi j=>.int<|g i j):=by
 ksr_p;obtain⟨i,j,rfl,rfl,q⟩:=h;obtain⟨t,rfl⟩:=rx;obtain⟨d,rfl⟩:=ry;exact rule i j t d s _ _ ⟨.int<|g i j,H,I.tok _,⟨_,rfl⟩,q⟩
def MP{f:aa->aa->Sem aa}{g:Int->Int->Bool}
  (rule:∀(i j:Int) (t u:Tok) (s:aA) (Q:aa->aA->Prop) (E:aa->aA->Prop),Q (.bool<|g i j) s->wpAny (model X.prog X.w) X.A (f (.int i t)<|.int j u) Q E s) :
  nO X f (Og λi j=>.bl<|g i j):=by
 ksr_p;obtain⟨i,j,rfl,rfl,q⟩:=h;obtain⟨t,rfl⟩:=rx;obtain⟨d,rfl⟩:=ry;exact rule i j t d s _ _ ⟨.bl<|g i j,H,I,rfl,q⟩
abbrev UB (i j:Int):Prop:=0<=j/\j<=1000000/\i.natAbs<2 ^ 64
abbrev M6 (i j:Int):Prop:=(-(2 ^ 64)<i/\i<2 ^ 64)\/(-(2 ^ 64)<j/\j<2 ^ 64)
def M6.ok{i j:Int}(h:M6 i j):IntMulOk i j:=by
 rcases h with⟨h1,d⟩|⟨h1,d⟩
 ·exact .of_left (intBits_le_64 h1 d)
 ·exact .of_right<|intBits_le_64 h1 d
def OH:nO X (binaryOp .Add) (Og λi j=>.int<|i+j):=RM λ_ _ _ _ _ _ _ q=>add_int q
def Ql:nO X (binaryOp .Sub) (Og λi j=>.int<|i-j):=RM λ_ _ _ _ _ _ _ q=>sub_int q
def Qe:nO X (binaryOp .Mult) (rI M6 λi j=>.int<|i * j):=SH λ_ _ _ _ _ _ _ hc q=>mul_int q hc.ok
def OP:nO X (binaryOp .Mod) (rI (λ_ j=>0<j) λi j=>.int<|i % j):=SH λi j _ _ _ _ _ hc q=>by
 have h1:(0:Int)<j:=hc;exact mod_int' ()<|by rw[Int.fmod_eq_emod_of_nonneg i ()];exact q
def Ox:nO X (binaryOp .Pow) (rI UB λi j=>.int<|i ^ j.toNat):=SH λ_ _ _ _ _ _ _ hc q=>pow_int_small hc.1 hc.2.1 hc.2.2 q
def Vm{f:aa->Sem aa}{g:Int->Int}
  (rule:∀(i:Int) (t:Tok) (s:aA) (Q:aa->aA->Prop) (E:aa->aA->Prop),Q (.int (g i) s.toks) { s with toks:=s.toks+1 }->wpAny (model X.prog X.w) X.A (f<|.int i t) Q E s) :
  SS X f (rU λi=>.int<|g i):=by
 intro pins s σ H x v Q I rx h;obtain⟨i,rfl,q⟩:=h;obtain⟨t,rfl⟩:=rx;exact rule i t s _ _ ⟨.int<|g i,H,I.tok _,⟨_,rfl⟩,q⟩
def Dm:SS X (unaryOp .USub) (rU λi=>.int<|-i):=Vm λ_ _ _ _ _ q=>neg_int q
end
section
variable {X:Cx}{a b c:aC}{ta tb tc:TE}{pos:Pos}
def RK:nO X (compareOp .Lt) (Og λi j=>.bl<|decide<|i<j):=MP λ_ _ _ _ _ _ _ q=>lt_int q
def Sl:nO X (compareOp .LtE) (Og λi j=>.bl<|decide<|i<=j):=MP λ_ _ _ _ _ _ _ q=>le_int q
def Rc:nO X (compareOp .Gt) (Og λi j=>.bl<|decide<|j<i):=MP λ_ _ _ _ _ _ _ q=>gt_int q
def Sw:nO X (compareOp .GtE) (Og λi j=>.bl<|decide<|j<=i):=MP λ_ _ _ _ _ _ _ q=>ge_int q
def Hs(b:aC)(h:op≠.In:=by decide)(h2:op≠.NotIn:=by decide):behindInMarks op b=false:=by
 have e1:(op == CmpOp.In)=false:=by cases op<;>first|rfl|exact absurd rfl h
 have e2:(op == CmpOp.NotIn)=false:=by cases op<;>first|rfl|exact absurd rfl h2
 cases b<;>simp[behindInMarks,e1,e2]
def MU{op:CmpOp}{r:R2}(ho:nO X (compareOp op) r)(ha:PE X a ta)(hb:PE X b tb)(hm:behindInMarks op b=false):PE X (.Compare a [op] [b] pos) (Q6 r ta tb):=by
 fin2;exact wpAny_Compare1 (O4 ha hb I h λv u d x y H2 f rx ry q=>ho pins d σ H2 x y v u Q f rx ry q) hm
abbrev RX (t:TE):TT:=λσ H Q=>t σ H λx H'=>∃k,x=.bl k/\Q k H'
def MD{op:CmpOp}{r:R2}(ho:nO X (compareOp op) r)(ha:PE X a ta)(hb:PE X b tb)(hm:behindInMarks op b=false):PT X (.Compare a [op] [b] pos) (RX<|Q6 r ta tb):=by
 fin2;refine wpAny_isTrue_Compare1 (ki (ha pins s σ H _ I h) λv q ⟨x,H1,I1,r1,j⟩=>ki (hb pins q σ H1 _ I1 j) λu d ⟨y,H2,t,r2,g⟩=>
  ki (ho pins d σ H2 x y v u _ t r1 r2 g) λc B ⟨z,m,I3,r3,k,e,f⟩=>?_) hm
 subst e
 cases r3
 exact d7 ⟨m,I3,f⟩
abbrev H_ (r r':R2)(ta tb tc:TE):TE:=λσ H Q=>ta σ H λx H1=>tb σ H1 λy H2=>r x y H2 λz d=>∃k,z=.bl k /\
 (if k=true then tc σ d λf g=>r' y f g Q else Q (.bl false) d)
def LD{r r':R2}(ho:nO X (compareOp op) r)(ho':nO X (compareOp op') r')(ha:PE X a ta)(hb:PE X b tb)(hc:PE X c tc)
  (hm:lastMarks [op,op'] [b,c]=false:=by with_unfolding_all rfl):PE X (.Compare a [op,op'] [b,c] pos) (H_ r r' ta tb tc):=by
 fin2;refine Compare_chain (ki (ha pins s σ H _ I h) λv G ⟨x,H1,I1,r1,C⟩=>chain_link (ki (hb pins G σ H1 _ I1 C) λu j ⟨y,H2,O,r2,t⟩=>
  ki (ho pins j σ H2 x y v u _ O r1 r2 t) λd F ⟨z,g,I3,r3,k,e,f⟩=>?_)) hm
 subst e
 cases r3
 refine d7 ?_
 cases k with
 | false=>exact ite_ff ⟨.bl false,g,I3,rfl,f⟩
 | true=>exact ite_tt<|chain_last<|ki (hc pins F σ g _ I3 f) λm q ⟨B,L,K,J,N⟩=>ho' pins q σ L y B u m Q K r2 J N
abbrev Pd (K:aq)(x:V)(H:Hp)(k:Bool):Prop:=
 match x with
 | .jC=>k=false
 | .bl b=>k=b
 | .int i=>k=(i != 0)
 | .str y=>y.length<=sizeLine/\k=((y.length:Int) != 0)
 | .byt y=>y.size<=sizeLine/\k=((y.size:Int) != 0)
 | .ref p=>(∃xs,kP K H p xs/\k=!xs.isEmpty)\/(∃xs,m8 K H p xs/\k=!xs.isEmpty)\/∃kvs,H p=some (.dK kvs)/\k=!kvs.isEmpty
 | _=>False
def CO{κ:Type}{kvs:List<|κ×V}{vs:List<|κ×aa}(r:KV kvs vs):(!vs.isEmpty)=!kvs.isEmpty:=by
 cases r<;>rfl
def xZ{xs:List V}{its:ar}(r:Vals xs its):(!its.toArray.isEmpty)=!xs.isEmpty:=by
 cases r<;>simp
def uQ:(sizeLine:Nat)<2 ^ 63:=by rw[cO];decide
def Qj:Ud X (λx H Q=>∃k,Pd X.K x H k/\Q k H):=by
 intro pins s σ H x v Q I rx h;obtain⟨k,e,q⟩:=h;have C:=uQ;have hs:sizeLine=16777216:=cO
 cases x with
 | jC=>
  cases rx
  have d:k=false:=e;subst d;exact truthy_none ⟨H,I,q⟩
 | bl b=>
  cases rx
  have d:k=b:=e;subst d;exact d7 ⟨H,I,q⟩
 | int i=>
  obtain⟨t,rfl⟩:=rx;have d:k=(i != 0):=e;subst d;exact PySem.P.truthy_int ⟨H,I,q⟩
 | str y=>
  obtain⟨t,rfl⟩:=rx;obtain⟨hy,d⟩:y.length<=sizeLine/\k=((y.length:Int) != 0):=e;subst d;exact PySem.P.truthy_str () ⟨H,I.tok _,q⟩
 | byt y=>
  obtain⟨t,rfl⟩:=rx;obtain⟨hy,d⟩:y.size<=sizeLine/\k=((y.size:Int) != 0):=e;subst d;exact PySem.W.truthy_bytes () ⟨H,I.tok _,q⟩
 | ref p=>
  cases rx
  have d:(∃xs,kP X.K H p xs/\k=!xs.isEmpty)\/(∃xs,m8 X.K H p xs/\k=!xs.isEmpty)\/∃kvs,H p=some (.dK kvs)/\k=!kvs.isEmpty:=e
  rcases d with⟨xs,hx,d⟩|⟨xs,hx,d⟩|⟨kvs,hx,d⟩
  ·subst d;obtain⟨g,r,j,z⟩:=I.list hx;have f:=r.length;exact wpAny_truthy_list j.isList (by dsimp[aP];lia) ⟨H,I.tok _,by rw[xZ r];exact q⟩
  ·subst d;obtain⟨g,r,j,z⟩:=I.tuple hx;have f:=r.length;exact truthy_tuple j (by dsimp[aP];lia) ⟨H,I.tok _,by rw[xZ r];exact q⟩
  ·subst d;obtain⟨z,B,vs,r,m⟩:kvs.length<=sizeLine/\(p == sysModules)=false/\∃vs,KV kvs vs/\s.heap.DictOf (kO X.prog X.w) p vs:=I.hok p _ hx;have f:kvs.length=vs.length:=ig r;exact wpAny_truthy_dict B m () ⟨H,I.tok _,by rw[CO r];exact q⟩
 | _=>exact(show False from e).elim
def LG(ha:PE X a ta)(he:∀whole,isTrue a X.env whole=(do let v <- whole;standAt a.pos;holding [v] (truthy v))) :
  PT X a (λσ H Q=>ta σ H λx H'=>∃k,Pd X.K x H' k/\Q k H'):=by
 fin2;exact isTrue_plain (ki (ha pins s σ H _ I h) λv d ⟨x,H1,I1,r1,f⟩=>Qj pins d σ H1 x v Q I1 r1 f)<|he _
def CB:nO X (binaryOp .Add) (λx y H Q=>∃i j,x=.str i/\y=.str j/\i.length+j.length<=sizeLine/\Q (.str<|i++j) H):=by
 ksr_p;obtain⟨i,j,rfl,rfl,f,q⟩:=h;obtain⟨t,rfl⟩:=rx;obtain⟨d,rfl⟩:=ry;exact add_str (λd g=>⟨.str<|i++j,H,I.tok _,⟨_,rfl⟩,q⟩) f
def vals1{x:V}(r:Vals [x] us):∃u,us=[u]/\RelV x u:=by
 cases r with
 | cons r1 r2=>cases r2;exact⟨_,rfl,r1⟩
def vals2{x:V}(r:Vals [x,y] us):∃u w',us=[u,w']/\RelV x u/\RelV y w':=by
 cases r with
 | cons r1 r2=>
  cases r2 with
  | cons r3 d=>cases d;exact⟨_,_,rfl,r1,r3⟩
def G2(hc:X.calm=true):jH X (.builtin "max") (λxs H Q=>∃i j,xs=[.int i,.int j]/\Q (.int<|if j>i then j else i) H):=by
 gp_on;obtain⟨i,j,rfl,q⟩:=h;obtain⟨u,f,rfl,⟨t,rfl⟩,⟨g,rfl⟩⟩:=vals2 r;refine max_two_ints (I.ok.hd hc) λh' m k=>⟨_,H,I.kept k,?_,q⟩;by_cases d:j>i
 ·rw[bf d,bf d];exact⟨_,rfl⟩
 ·rw[bu d,bu d];exact⟨_,rfl⟩
def Gf(hc:X.calm=true):jH X (.builtin "min") (λxs H Q=>∃i j,xs=[.int i,.int j]/\Q (.int<|if j<i then j else i) H):=by
 gp_on;obtain⟨i,j,rfl,q⟩:=h;obtain⟨u,f,rfl,⟨t,rfl⟩,⟨g,rfl⟩⟩:=vals2 r;refine min_two_ints (I.ok.hd hc) λh' m k=>⟨_,H,I.kept k,?_,q⟩;by_cases d:j<i
 ·rw[bf d,bf d];exact⟨_,rfl⟩
 ·rw[bu d,bu d];exact⟨_,rfl⟩
abbrev Uv (K:aq)(x:V)(H:Hp)(n:Nat):Prop:=
 match x with
 | .str y=>y.length<=sizeLine/\n=y.length
 | .byt y=>y.size<=sizeLine/\n=y.size
 | .ref p=>(∃xs,kP K H p xs/\n=xs.length)\/∃xs,m8 K H p xs/\n=xs.length
 | _=>False
def JH:jH X (.builtin "len") (λxs H Q=>∃x n,xs=[x]/\Uv X.K x H n/\Q (.int n) H):=by
 gp_on;obtain⟨x,n,rfl,e,q⟩:=h;kln_w;have z:=uQ;have hs:sizeLine=16777216:=cO
 cases x with
 | str y=>
  obtain⟨t,rfl⟩:=rx;obtain⟨hy,f⟩:y.length<=sizeLine/\n=y.length:=e;subst f;exact len_str () ⟨.int _,H,I.tok _,⟨_,rfl⟩,q⟩
 | byt y=>
  obtain⟨t,rfl⟩:=rx;obtain⟨hy,f⟩:y.size<=sizeLine/\n=y.size:=e;subst f;exact PySem.W.len_bytes () ⟨.int _,H,I.tok _,⟨_,rfl⟩,q⟩
 | ref p=>
  cases rx
  have f:(∃xs,kP X.K H p xs/\n=xs.length)\/∃xs,m8 X.K H p xs/\n=xs.length:=e
  rcases f with⟨xs,hx,f⟩|⟨xs,hx,f⟩
  ·subst f;obtain⟨j,g,k,m⟩:=I.list hx;have d:=g.length;exact Calls.call_len_list k.isList (by dsimp[aP];lia) ⟨.int xs.length,H,I.tok _,⟨_,by dsimp[aP];rw[d]⟩,q⟩
  ·subst f;obtain⟨j,g,k,m⟩:=I.tuple hx;have d:=g.length;exact len_tuple k (by dsimp[aP];lia) ⟨.int xs.length,H,I.tok _,⟨_,by dsimp[aP];rw[d]⟩,q⟩
 | _=>exact(show False from e).elim
end
structure ObjM (h:ak)(x dx C:aj)(mA:Str->be):Prop where
 obj:h.get? x=some (PySem.W.instObj C dx)
 ns:h.Ns1 dx mA
 ne:dx≠x
def GX{h:ak}{mA:Str->be}(n:h.Ns1 dx mA):∃od,h.get? dx=some od/\∀name,PySem.W.lookIn name od=some (mA name):=by
 obtain⟨o,es,k,j,hd,f,_,hm⟩:=n;refine⟨o,j,λname=>?_⟩;have e:=hm name;unfold nsFind findBy at e;rw[<- Array.find?_toList]at e;unfold PySem.W.lookIn;rw[hd];dsimp only;split
 ·rename_i y q;rw[q]at e;exact b_ some e
 ·rename_i q;rw[q]at e;have a:es.toList.any (·.refKey)=false:=by
   rw[List.any_eq_false];intro y hy;obtain⟨z,t,d⟩:=f y<|Array.mem_toList_iff.mp hy;simp[DictEntry.refKey,d]
  have g:¬es.toList.any (·.refKey)=true:=by rw[a];exact bz
  rw[bu g];exact b_ some e
def ObjM.look{x:aj}{mA:Str->be}(I:ObjM h x dx C mA):∃od,PySem.W.InstAt h x (PySem.W.instObj C dx) C (some od)/\∀name,PySem.W.lookIn name od=some (mA name):=
 let⟨od,ho,hl⟩:=GX I.ns
 ⟨od,⟨I.obj,rfl,rfl,ho⟩,hl⟩
def xw.some_of{v:V}(r:xw (some v) o):∃u,o=some u/\RelV v u:=by
 cases o with
 | none=>exact(show False from r).elim
 | some u=>exact⟨u,rfl,r⟩
section
variable {P:ah}{w:af}{H:Hp}{h:ak}{a C dx:aj}{fs:List (Str×V)}
def MK(hok:sH P w H h)(e:H a=some (.ins C dx fs)):∃mA,ObjM h a dx C mA/\(∀f,xw (fs.lookup f)<|mA f)/\PySem.Within mA (fs.map (·.1))/\fs.length<=1000/\H dx=some (.own a):=by
 obtain⟨d,z,g,ob,mA,n,r,q⟩:=(show j6 P w H h a (.ins C dx fs)from hok a _ e);exact⟨mA,⟨ob,n,g⟩,r,q,z,d⟩
end
structure Cls (K:aq)(C:aj):Prop where
 pg:PySem.W.plainGet K C Str.empty=true
 hd:PySem.W.hasDictIn K C=true
 po:PySem.W.plainOver K C=true
 sa:PySem.W.findIn K (.ref C) "__setattr__" = some (some<|.builtin "object.__setattr__")
def Cls.get{K:aq}(c:Cls K C)(f:Str):PySem.W.plainGet K C f=true:=c.pg
structure Con (K:aq)(C:aj)(f:Str)(v:V)(u:aa):Prop where
 at_:PySem.W.findIn K (.ref C) f=some (some u)
 rel:RelV v u
 get:PySem.W.specialIn K u "__get__" = some none
 cp:PySem.W.copiedNames.contains f=false
structure Meth (K:aq)(C:aj)(m:Str)(f:aj):Prop where
 at_:PySem.W.findIn K (.ref C) m=some (some<|.ref f)
 fn:PySem.W.isFn K (.ref f)=true
 kp:PySem.W.keepIn K (.ref f)=true
section
variable {X:Cx}{pins:bt}{σ:St}{H:Hp}{s:aA}{A:au}{E:aa->aA->Prop}{Q:aa->aA->Prop}{c:aa}{b:Bool}
inductive TyOf (K:aq) (H:Hp):V->aa->Prop where
 | jC:TyOf K H .jC (.type "NoneType")
 | bl (x:Bool):TyOf K H (.bl x) (.type "bool")
 | int (i:Int):TyOf K H (.int i) (.type "int")
 | str (x:Str):TyOf K H (.str x) (.type "str")
 | flt (x:UInt64):TyOf K H (.flt x) (.type "float")
 | lst {a:aj} {xs:List V} (e:H a=some (.lst xs)):TyOf K H (.ref a) (.type "list")
 | frz {a:aj} {o:Obj} {xs:List V} (e:H a=some (.frz o<|.lst xs)):TyOf K H (.ref a) (.type "list")
 | tup {a:aj} {xs:List V} (e:H a=some (.tup xs)):TyOf K H (.ref a) (.type "tuple")
 | dK {a:aj} {kvs:List<|Key×V} (e:H a=some (.dK kvs)):TyOf K H (.ref a) (.type "dict")
 | dT {a:aj} {kvs:List<|List Key×V} (e:H a=some (.dT kvs)):TyOf K H (.ref a) (.type "dict")
 | ins {a C dx:aj} {fs:List<|Str×V} (e:H a=some (.ins C dx fs)) (cl:Cls K C) (ha:PySem.W.findIn K (.ref C) "__class__" = some (some<|.builtin "object.__class__"))
   (hn:PySem.W.specialIn K (.builtin "object.__class__") "__get__" = some (some<|.builtin "getset_descriptor.__get__")) (htk:PySem.W.takesIn K (.builtin "object.__class__")=some true)
   (hm:PySem.W.mroIn K C (.type "object")=some true):TyOf K H (.ref a)<|.ref C
def G0{x:V}(I:Inv X pins σ H s)(rx:RelV x u)(ty:TyOf X.K H x t)(e:PySem.W.kitOne X.K t c=some b)(h:∀tk,Q (.bool b) { s with toks:=tk }) :
  wpAny (model X.prog X.w) A (call (.builtin "isinstance") [u,c]) Q E s:=by
 cases ty with
 | jC=>cases(show u=Value.none from rx);exact cI PySem.W.kitx_none I.wj True.intro e (λz=>nomatch z) h
 | bl y=>cases(show u=Value.bool y from rx);exact cI PySem.W.kitx_bool I.wj True.intro e (λz=>nomatch z) h
 | int i=>obtain⟨t,q⟩:=(show ∃t,u=Value.int i t from rx);cases q;exact cI PySem.W.kitx_int I.wj True.intro e (λz=>nomatch z) h
 | str y=>obtain⟨t,q⟩:=(show ∃t,u=Value.str y t from rx);cases q;exact cI PySem.W.kitx_str I.wj True.intro e (λz=>nomatch z) h
 | flt y=>obtain⟨t,q⟩:=(show ∃t,u=Value.float y t from rx);cases q;exact cI PySem.W.kitx_float I.wj True.intro e (λz=>nomatch z) h
 | @lst a xs d=>
  cases(show u=Value.ref a from rx)
  obtain⟨_,_,n,_,h1⟩:=(show j6 X.prog X.w H s.heap a (.lst xs)from I.hok a _ d);exact cI PySem.W.kitx_list I.wj ⟨_,h1,rfl⟩ e (λz=>nomatch z) h
 | @frz a ob xs d=>
  cases(show u=Value.ref a from rx)
  obtain⟨_,_,_,n,_,h1⟩:=(show j6 X.prog X.w H s.heap a (.frz ob<|.lst xs)from I.hok a _ d);exact cI PySem.W.kitx_list I.wj ⟨_,h1,rfl⟩ e (λz=>nomatch z) h
 | @tup a xs d=>
  cases(show u=Value.ref a from rx)
  obtain⟨_,_,_,p⟩:=(show j6 X.prog X.w H s.heap a (.tup xs)from I.hok a _ d);obtain⟨o,h1,f,_⟩:=p;exact cI PySem.W.kitx_tuple I.wj ⟨o,h1,f⟩ e (λz=>nomatch z) h
 | @dK a kvs d=>
  cases(show u=Value.ref a from rx)
  obtain⟨_,_,vs,_,p⟩:=(show j6 X.prog X.w H s.heap a (.dK kvs)from I.hok a _ d);obtain⟨o,es,m,h1,f,_⟩:=p;exact cI PySem.W.kitx_dict I.wj ⟨o,h1,f.1⟩ e (λz=>nomatch z) h
 | @dT a kvs d=>
  cases(show u=Value.ref a from rx)
  obtain⟨_,_,xs,_,o,es,m,h1,f,_⟩:=(show j6 X.prog X.w H s.heap a (.dT kvs)from I.hok a _ d);exact cI PySem.W.kitx_dict I.wj ⟨o,h1,f.1⟩ e (λz=>nomatch z) h
 | @ins a C dx fs d j k hn g hm=>
  cases(show u=Value.ref a from rx)
  obtain⟨F,O,_⟩:=MK I.hok d;obtain⟨B,J,_⟩:=O.look;exact cI (PySem.W.kitx_own (j.get _) j.hd k hn g hm) I.wj J e (λz=>nomatch z) h
end
structure Room (k:Nat)(A:au):Prop where
 hd:A.handled=none
 dp:A.depth+3 * k+5<recursionLimit
 un:A.units+16 * k+200<cLine
 gs:A.guards=some []
def Room.mono{k:Nat}{A:au}(r:Room k A)(h:j<=k):Room j A:=⟨r.hd,by have:=r.dp;lia,by have:=r.un;lia,r.gs⟩
def Room.deeper{k:Nat}{A:au}(r:Room (k+1) A)(env:Env):Room k (A.deeper env):=
 ⟨r.hd,by have:=r.dp;show A.depth+1+3 * k+5<_;lia,by have:=r.un;show A.units+3+16 * k+200<_;lia,r.gs⟩
def Room.depth{k:Nat}{A:au}(r:Room k A):A.depth<recursionLimit:=by have:=r.dp;lia
def Room.units{k:Nat}{A:au}(r:Room k A):A.units+64<cLine:=by have:=r.un;lia
abbrev Tu:TA:=λ_ H Q=>Q [] H
abbrev Rf (ta:TE)(tr:TA):TA:=λσ H Q=>ta σ H λx H1=>tr σ H1 λxs H2=>Q (x::xs) H2
section
variable {X:Cx}{e:aC}{es:List aC}{te:TE}{t:TA}{pos:Pos}
def rE:PA X [] Tu:=λ_ _ _ _ H Q I h=>Calls.spliced_nil ⟨[],H,I,.nil,h⟩
def lB(ha:PE X e te)(hr:PA X es t)(hs:starEach (e::es) X.env=(false,eval e X.env)::starEach es X.env:=by rfl):PA X (e::es) (Rf te t):=by
 intro pos pins s σ H Q I h;rw[hs]
 skip
 refine Calls.spliced_cons<|ki (ha pins s σ H _ I h) λu g ⟨x,H1,I1,r1,f⟩=>?_;exact ki (hr pos pins g σ H1 _ I1 f) λus k ⟨xs,H2,j,r2,d⟩=>⟨x::xs,H2,j,.cons r1 r2,d⟩
abbrev T6 (t:TA):TE:=λσ H Q=>t σ H λxs H1=>xs.length<=sizeLine/\∀p,H1 p=none->Q (.ref p) (upd H1 p<|.tup xs)
abbrev Tq (t:TA):TE:=λσ H Q=>t σ H λxs H1=>xs.length<=sizeLine/\∀p,H1 p=none->Q (.ref p) (upd H1 p<|.lst xs)
def Pk{x1}(h:PA X es t):PE X (.Tuple es x1 pos) (T6 t):=by
 intro pins s σ H Q I f;refine wpAny_Tuple_spliced (ki (h pos pins s σ H _ I f) λus d ⟨xs,H1,I1,r,z,q⟩=>⟨by rw[<- r.length];exact z,?_⟩);have hf:H1 d.heap.objs.size=none:=I1.hok.fresh<|aL _;refine⟨.ref d.heap.objs.size,upd H1 d.heap.objs.size<|.tup xs,I1.laid (t':=d.toks) (λb u e=>aK _ e) (aL _) ?_,rfl,q _ hf⟩;exact⟨z,us,r,⟨_,bC _ rfl,rfl,rfl,_,rfl⟩⟩
def PR(h:PA X es t):PE X (.List es pos) (Tq t):=by
 intro pins s σ H Q I f;refine wpAny_List_spliced (ki (h pos pins s σ H _ I f) λus d ⟨xs,H1,I1,r,z,q⟩=>⟨by rw[<- r.length];exact z,?_⟩);have hf:H1 d.heap.objs.size=none:=I1.hok.fresh<|aL _;refine⟨.ref d.heap.objs.size,upd H1 d.heap.objs.size<|.lst xs,I1.laid (t':=d.toks) (λb u e=>aK _ e) (aL _) ?_,rfl,q _ hf⟩;exact⟨z,us,0,r,bC _ rfl⟩
end
meta abbrev Sp:=List V->Hp->VK->XK->Prop
meta abbrev K_:=List Env->Hp->aA->XK->aa->aA->Prop
structure Env0 (P:ah)(w:af)(K:aq)(mg:Str->be)(base:ak)(A:au)(outer:List Env)(s:aA)(H:Hp):Prop where
 frames:A.frames=some outer
 mod:Mod K mg base
 bs:∀b o,base.get? b=some o->s.heap.get? b=some o/\H b=none
 bsz:base.objs.size<=s.heap.objs.size
 qo:s.heap.FunFrames base outer
 frf:∀b∈frs outer,H b=none
 hok:sH P w H s.heap
 bare:AllBare s.gens
abbrev CE (outer:List Env)(P:ah)(w:af)(H:Hp)(s:aA)(Q:VK)(u:aa)(s':aA):Prop:=
 ∃v H',s'.os=s.os/\AllBare s'.gens/\Un (frs outer) [] H H' s.heap s'.heap/\sH P w H' s'.heap/\RelV v u/\Q v H'
abbrev CR (CX:K_)(outer:List Env)(P:ah)(w:af)(H:Hp)(s:aA)(Q:VK)(E:XK)(r:Result)(s':aA):Prop:=
 match r with
 | .ok (.ret u)=>CE outer P w H s Q u s'
 | .ok _=>False
 | .error e=>CX outer H s E e s'
structure FnOk (P:ah)(w:af)(K:aq)(mg:Str->be)(base:ak)(CX:K_)(k:Nat)(f:aj)(fd:FuncData)(ps:am)(sp:Sp):Prop where
 len:∀vs H Q E,sp vs H Q E->vs.length=ps.length
 run:∀(A:au) (outer:List Env) (s:aA) (H:Hp) (args:Args) (us:ar) (vs:List V) (Q:VK) (E:XK),Room k A->Env0 P w K mg base A outer s H->BindsTo s fd args (ps.zip us)->Vals vs us->sp vs H Q E ->
  codeAny (model P w) A (.call (.ref f) args) (CR CX outer P w H s Q E) s
section
variable {X:Cx}{pins:bt}{σ:St}{H:Hp}{s s':aA}
def Inv.Pu(I:Inv X pins σ H s):Env0 X.prog X.w X.K X.mg X.base X.A X.stack s H:=
 ⟨I.ok.frames,I.ok.mod,I.bs,bX I.ok.bsz I.sz,I.stack,I.wW,I.hok,I.bare⟩
def Inv.after{Q:VK}(I:Inv X pins σ H s)(h:CE X.stack X.prog X.w H s Q u s'):EP X pins σ Q u s':=by
 obtain⟨v,H',os,bare,un,hok,r,q⟩:=h;obtain⟨j,g,d,t,f⟩:=s';obtain rfl:f=s.os:=os;exact⟨v,H',I.call (h':=j) (g':=g) (d':=d) (t':=t) (ch:=[]) un hok bare λb z=>absurd z<|by simp,r,q⟩
end
abbrev LK (sp:Sp)(dvs:List V)(E:XK)(t:TA):TE:=λσ H Q=>t σ H λvs H1=>sp (vs++dvs) H1 Q E
abbrev Binds (K:aq)(fd:FuncData)(ps:am)(ds:ar):Prop:=
 ∀(s:aA) (us:ar),K.In s.heap->(us++ds).length=ps.length->BindsTo s fd ⟨us,[]⟩ (ps.zip<|us++ds)
def Binds.all{K:aq}{ps:am}(h:∀us:ar,us.length=ps.length->bindArgs fd ⟨us,[]⟩=pure (ps.zip us)):Binds K fd ps []:=λs us _ d=>by
 rw[bM]at d ⊢;exact .of_eq<|h us d
abbrev Passes (CX:K_)(X:Cx)(E:XK):Prop:=∀(pins:bt) (σ:St) (H:Hp) (s:aA) (e:aa) (s':aA),Inv X pins σ H s->CX X.stack H s E e s'->X.xe e s'
section
variable {X:Cx}{CX:K_}{k:Nat}{f C:aj}{fd:FuncData}{ps:am}{sp:Sp}{dvs:List V}{ds:ar}{E:XK}{x:Str}{p pos:Pos}{e:aC}{es:List aC}{t:TA}
def OI{H:Hp}{Q:VK}(F:FnOk X.prog X.w X.K X.mg X.base CX k f fd ps sp)(hr:Room k X.A)(hb:Binds X.K fd ps ds)(hd:Vals dvs ds)(hx:Passes CX X E)
  (I:Inv X pins σ H s) (r:Vals vs us) (h:sp (vs++dvs) H Q E):wpAny (model X.prog X.w) X.A (call (.ref f) us) (EP X pins σ Q) X.xe s:=by
 have r2:Vals (vs++dvs) (us++ds):=r.append hd;have g:(us++ds).length=ps.length:=by rw[<- r2.length];exact F.len _ _ _ _ h
 refine gQ (eU (F.run X.A X.stack s H ⟨us,[]⟩ (us++ds) (vs++dvs) Q E hr I.Pu (hb s us I.wj g) r2 h) λr s' d=>?_)
 cases r with
 | error e=>exact hx pins σ H s e s' I d
 | ok fl=>
  cases fl with
  | ret u=>exact I.after d
  | next=>exact False.elim d
  | brk=>exact False.elim d
  | cont=>exact False.elim d
def EF(F:FnOk X.prog X.w X.K X.mg X.base CX k f fd ps sp)(hr:Room k X.A)(hg:Gl X x)(hm:X.mg x=some (.ref f))(hk:PySem.W.keepIn X.K (.ref f)=true)(hb:Binds X.K fd ps ds)(hd:Vals dvs ds)(hx:Passes CX X E)
  (ha:PA X (e::es) t) (hdb:(x == ("__debug__" : Str))=false:=by decide) (he:starEach (e::es) X.env=(false,eval e X.env)::starEach es X.env:=by rfl) (hpl:(backTo pos<|starEach es X.env).any (·.1)=false:=by rfl) :
  PE X (.Call (.Name x p) (e::es) [] pos) (LK sp dvs E t):=by
 fin2;refine eV<|sf I hg hm ?_ hdb;refine gR (h₀:=X.base) I.ok.mod.kin hk (ki (ha pos pins s σ H _ I h) λus d ⟨vs,H1,I1,r,q⟩=>⟨I1.wj,?_⟩) he hpl;exact OI F hr hb hd hx I1 r q
structure Mk (K:aq)(C f:aj):Prop where
 makes:PySem.W.makesIn K C=true
 init:PySem.W.findIn K (.ref C) "__init__" = some (some<|.ref f)
 fn:PySem.W.isFn K (.ref f)=true
 kp:PySem.W.keepIn K (.ref C)=true
end
section
variable {fd:FuncData}{ps ks:am}
structure KBinds (K:aq)(fd:FuncData)(ps ks:am)(g:ar->ar->ar)(gV:List V->List V->List V):Prop where
 to:∀(s:aA) (us ws:ar),K.In s.heap->(g us ws).length=ps.length->BindsTo s fd ⟨us,ks.zip ws⟩ (ps.zip<|g us ws)
 rel:∀{vs:List V} {us:ar} {zs:List V} {ws:ar},Vals vs us->Vals zs ws->Vals (gV vs zs) (g us ws)
end
structure FnScope (N P:am)(sc:Scope):Prop where
 kind:sc.kind=.function
 co:sc.isCoroutine=false
 gen:sc.isGenerator=false
 nd:N.Nodup
 pre:N.take P.length=P
 par:∀x∈P,sc.names.lookup x=some .local\/sc.names.lookup x=some .cell
 nofree:∀y∈sc.names,y.2≠.free
theorem zH{kindOf:Str->Option NameKind}{x:Str}:∀{binds:List<|Str×aa}{m:Str->be},(∀v,(x,v)∉binds)->bindL kindOf binds m x=m x
 | [],_,_=>rfl
 | (n,v)::r,m,h=>by
  unfold bindL;rw[zH λw hw=>h w<|aN _ hw];split
  ·have:x≠n:=by rintro rfl;exact h v a_
   simp[this]
  ·rfl
theorem zJ{kindOf:Str->Option NameKind}{x:Str}:∀{binds:List<|Str×aa}{m:Str->be},(∀v,(x,v)∉binds)->bindC kindOf binds m x=m x
 | [],_,_=>rfl
 | (n,v)::r,m,h=>by
  unfold bindC;rw[zJ λw hw=>h w<|aN _ hw];split
  ·rfl
  ·have:x≠n:=by rintro rfl;exact h v a_
   simp[this]
theorem zI{kindOf:Str->Option NameKind}{x:Str}{v:aa}:∀{P:am}{vs:ar}{i:Nat}{m:Str->be},P.Nodup->P[i]?=some x->vs[i]?=some v->kindOf x=some .local ->
  bindL kindOf (P.zip vs) m x=some v
 | [],_,_,_,_,h,_,_=>by simp at h
 | _::_,[],_,_,_,_,h,_=>by simp at h
 | p::P,w::vs,0,m,nd,h1,h2,hk=>by
  simp at h1 h2;subst h1;subst h2;show bindL kindOf ((p,w)::P.zip vs) m p=_;unfold bindL;rw[zH λv hv=>(bJ.mp nd).1 (gD hv).1,bf hk];simp
 | p::P,w::vs,i+1,m,nd,h1,h2,hk=>by
  skip
  unfold bindL;exact zI (i:=i) (bJ.mp nd).2 (by simpa using h1) (by simpa using h2) hk
theorem y9{kindOf:Str->Option NameKind}{x:Str}{v:aa}:∀{P:am}{vs:ar}{i:Nat}{m:Str->be},P.Nodup->P[i]?=some x->vs[i]?=some v->kindOf x≠some .local ->
  bindC kindOf (P.zip vs) m x=some v
 | [],_,_,_,_,h,_,_=>by simp at h
 | _::_,[],_,_,_,_,h,_=>by simp at h
 | p::P,w::vs,0,m,nd,h1,h2,hk=>by
  simp at h1 h2;subst h1;subst h2;show bindC kindOf ((p,w)::P.zip vs) m p=_;unfold bindC;rw[zJ λv hv=>(bJ.mp nd).1 (gD hv).1,bu hk];simp
 | p::P,w::vs,i+1,m,nd,h1,h2,hk=>by
  skip
  unfold bindC;exact y9 (i:=i) (bJ.mp nd).2 (by simpa using h1) (by simpa using h2) hk
abbrev start (N:am)(vs:List V):St:=vs.map some++List.replicate (N.length-vs.length) none
abbrev uP (CX:K_)(P:ah)(w:af)(K:aq)(mg:Str->be)(base:ak)(N:am)(qual:Str)(scope:Scope)(f:aj)(cd:aa)(A:au)(outer:List Env)(s:aA)(H:Hp)(E:XK):Cx where
 prog:=P
 w:=w
 K:=K
 mg:=mg
 base:=base
 A:=A.deeper (envOfC qual scope s.heap.objs.size f cd)
 N:=N
 s₀:=s
 H₀:=H
 env:=envOfC qual scope s.heap.objs.size f cd
 outer:=outer
 stack:=envOfC qual scope s.heap.objs.size f cd::outer
 ex:=[]
 calm:=true
 fn:=λ_=>true
 pn:=[]
 xe:=λe s'=>wpAny (model P w) (A.deeper<|envOfC qual scope s.heap.objs.size f cd) (leaving (envOfC qual scope s.heap.objs.size f cd) e) (λ_ d=>CX outer H s E e d) (λg d=>CX outer H s E g d) s'
def Cg{sc:Scope}{n:Nat}{x:Str}(h:sc.names.lookup x=some .cell):∃c,(cellsFrom n sc.names []).lookup x=some c:=by
 have q:=dN sc.names n []<|.inl h;exact eo.mp q
def zh{CX:K_}{P:ah}{w:af}{K:aq}{mg:Str->be}{base:ak}{N ps:am}{scope:Scope}{f:aj}{A:au}{outer:List Env}{s:aA}{H:Hp}{E:XK}{vs:List V}
  (S:FnScope N ps scope) (hd:A.handled=none) (e0:Env0 P w K mg base A outer s H) (hl:vs.length=ps.length) (r:Vals vs us)
  (x:InCallC s s.heap.objs.size (bindL (envOfC qual scope s.heap.objs.size f cd).kindOf (ps.zip us) λ_=>none) (cellsFrom (s.heap.objs.size+1) scope.names []) (bindC (envOfC qual scope s.heap.objs.size f cd).kindOf (ps.zip us) λ_=>none) s1) :
  Inv (uP CX P w K mg base N qual scope f cd A outer s H E) [] (start N vs) H s1:=by
 have B:ps.length<=N.length:=by have:=b_ List.length S.pre;rw[cg]at this;lia
 obtain⟨h1,J,rfl,t⟩:=x.done;have g:∀b:aj,b∉(uP CX P w K mg base N qual scope f cd A outer s H E).ex:=λb z=>absurd (show b∈([]:ba)from z) (by simp);refine⟨⟨e0.mod,S.kind,rfl,rfl,aL _,λy z c h1 d=>?_,λy hy=>?_,λy c _ h=>?_,λ_=>hd,Around.frames_deeper e0.frames,.inr ⟨rfl,rfl⟩,λb z=>absurd z<|g b,e0.bs,e0.bsz,λb _ _=>g b,λb z=>absurd z<|g b,e0.qo,e0.frf⟩,
  rfl,e0.bare,Un.kept t,⟨_,x.toInCall.ns,λi y v h1 d G=>?_⟩,λy c h=>⟨_,x.cell y c h⟩,e0.hok.fresh<|aL _,λy c h=>?_,λp hp=>absurd (show p∈([]:bt)from hp)<|by simp,e0.hok.kept t,?_⟩
 ·exact name_of_addr x.apart (cG h1) (cG d)
 ·have hy:scope.names.lookup y=some .cell\/scope.names.lookup y=some .free:=hy
  rcases hy with hy|hy
  ·exact Cg hy
  ·exact absurd rfl<|S.nofree _<|cG hy
 ·exact c8 (x.above y c<|cG h)
 ·have hi:i<vs.length:=by
   unfold start at d;by_cases hi:i<vs.length
   ·exact hi
   ·rw[c9<|by simpa using hi]at d;rw[List.getElem?_replicate]at d;split at d<;>cases d
  have C:vs[i]?=some v:=by
   unfold start at d;rw[aT<|by simpa using hi,aQ]at d
   cases e:vs[i]? with
   | none=>rw[e]at d;cases d
   | some a=>rw[e]at d;cases d;rfl
  obtain⟨u,m,F⟩:=r.get C;have hp:ps[i]?=some y:=by
   rw[<- S.pre,fD ()];exact h1
  have j:ps.Nodup:=by rw[<- S.pre];exact S.nd.sublist (List.take_sublist _ _)
  refine⟨u,F,?_⟩
  rcases S.par y (bg hp)with k|k
  ·exact .inl ⟨k,zI j hp m k⟩
  ·obtain⟨c,e⟩:=Cg (n:=s.heap.objs.size+1) k;refine .inr ⟨.inl k,c,e,?_⟩;have q:=x.cell y c e;rw[y9 j hp m<|by show scope.names.lookup y≠_;rw[k];decide]at q;exact q
 ·exact e0.hok.fresh (c8<|x.above y c<|cG h)
 ·unfold start;show _=N.length;rw[aO,aH,gh]
  lia
def Oo{CX:K_}{P:ah}{w:af}{K:aq}{mg:Str->be}{base:ak}{k:Nat}{f:aj}{kV pm ct:aa}
  {osl:Array<|be} {N ps:am} {sp:Sp} (lk:K.lookup f=some ⟨oc,od,.func<|PySem.W.fnOf name qual params body scope dV kV doc pm an cdv ct,osl⟩) (hcd:PySem.W.codeIn K cdv qual=true) (S:FnScope N ps scope)
  (len:∀vs H Q E,sp vs H Q E->vs.length=ps.length)
  (hbody:∀(A:au) (outer:List Env) (s:aA) (H:Hp) (vs:List V) (Q:VK) (E:XK),Room k (A.deeper<|envOfC qual scope s.heap.objs.size f cdv)->sp vs H Q E ->
   ∃t,yo (uP CX P w K mg base N qual scope f cdv A outer s H E) body t/\t { nx:=λ_ H'=>Q .jC H',rt:=Q } (start N vs) H) :
  FnOk P w K mg base CX (k+1) f (PySem.W.fnOf name qual params body scope dV kV doc pm an cdv ct) ps sp:=by
 refine⟨len,λA outer s H G us vs Q E z e0 hb r m=>?_⟩;have U:=len _ _ _ _ m;have F:K.In s.heap:=e0.mod.kin.keeps λb o e=>(e0.bs b o e).1;have C:s.heap.NoLimit:=e0.mod.nolimit.keeps λb o e=>(e0.bs b o e).1;have g:∀y∈ps.zip us,scope.names.lookup y.1=some .local\/(scope.names.lookup y.1=some .cell/\((cellsFrom (s.heap.objs.size+1) scope.names []).lookup y.1).isSome=true):=λ⟨n,v⟩ hy=>by
  rcases S.par n (gD hy).1 with q|q
  ·exact .inl q
  ·exact .inr ⟨q,dN _ _ _<|.inl q⟩
 refine codeAny_call_function z.depth (F _ _ lk) rfl S.co S.gen rfl (PySem.W.codeRec_of F hcd)<|hb _ _ _ _ ?_;refine wpAny_newFunctionEnv_cells S.kind g λenv O L x=>?_;subst O;refine⟨C.keeps x.toInCall.keep,codeAny_func ?_⟩;obtain⟨t,Z,Y⟩:=hbody A outer s H vs Q E (z.deeper _) m;have I:Inv (uP CX P w K mg base N qual scope f cdv A outer s H E) [] (start N vs) H L:=zh S z.hd e0 U r x;refine cE (Z [] L (start N vs) H _ I Y) (λfl s' hs=>?_) λe s' hs=>hs;have j:∀{d:St} {H':Hp} {v:V} {u:aa},Inv (uP CX P w K mg base N qual scope f cdv A outer s H E) [] d H' s'->RelV v u->Q v H'->CE outer P w H s Q u s':=
  λ{d H' v u} J B q=>⟨v,H',J.os,J.bare,J.base,J.hok,B,q⟩
 cases fl with
 | ret u=>
  obtain⟨v,d,H',J,B,q⟩:=hs;exact j J B q
 | next=>
  obtain⟨d,H',J,q⟩:=hs;exact j (v:=V.jC) (u:=Value.none) J rfl q
 | brk=>
  obtain⟨_,_,_,q⟩:=hs;exact False.elim q
 | cont=>
  obtain⟨_,_,_,q⟩:=hs;exact False.elim q
section
variable {X:Cx}{x:Str}{p pos:Pos}{e:aC}{es:List aC}{t:TA}{id T:String}{r:List V->Hp->VK->Prop}
abbrev Tz (r:List V->Hp->VK->Prop)(t:TA):TE:=λσ H Q=>t σ H λvs H1=>r vs H1 Q
def AU(hc:jH X (.builtin id) r)(hg:Gl X x)(hm:X.mg x=none)(hv:bootBuiltins x=some (.builtin id))(ha:PA X (e::es) t)(hn:x ≠ "__name__" := by decide)(hdb:(x == ("__debug__" : Str))=false:=by decide)
  (he:starEach (e::es) X.env=(false,eval e X.env)::starEach es X.env:=by rfl) (hpl:(backTo pos<|starEach es X.env).any (·.1)=false:=by rfl):PE X (.Call (.Name x p) (e::es) [] pos) (Tz r t):=by
 fin2;refine eV<|qV I hg hm hv ?_ hn hdb;exact PyProof.Rows.callWith_builtin1 (ki (ha pos pins s σ H _ I h) λus d ⟨vs,H1,I1,r1,f⟩=>hc pins d σ H1 vs us Q I1 r1 f) he hpl
def Gm(hc:jH X (.type T) r)(hg:Gl X x)(hm:X.mg x=none)(hv:bootBuiltins x=some (.type T))(ha:PA X (e::es) t)(hn:x ≠ "__name__" := by decide)(hdb:(x == ("__debug__" : Str))=false:=by decide)
  (he:starEach (e::es) X.env=(false,eval e X.env)::starEach es X.env:=by rfl) (hpl:(backTo pos<|starEach es X.env).any (·.1)=false:=by rfl):PE X (.Call (.Name x p) (e::es) [] pos) (Tz r t):=by
 fin2;refine eV<|qV I hg hm hv ?_ hn hdb;exact cR (ki (ha pos pins s σ H _ I h) λus d ⟨vs,H1,I1,r1,f⟩=>hc pins d σ H1 vs us Q I1 r1 f) he hpl
end
end L2
namespace HT
open PySem PyProof.Rows
section
variable {prog:ah}{w:af}{A:au}{E:aa->aA->Prop}{s:aA}
def Mb{vs ws:ar}{Q:aa->aA->Prop}(ht:IsTup s.heap t vs.toArray)(hb:IsTup s.heap b ws.toArray)(hv:vs≠[])
  (h1:ws=[]->Q (.ref t) s) (h2:ws≠[]->Q (.ref s.heap.objs.size) { s with heap:=s.heap.push { cls:=.type "tuple",data:=.seq (vs++ws).toArray }})
  (hsz:vs.length+ws.length<=sizeLine):wpAny (model prog w) A (binaryOp .Add (.ref t)<|.ref b) Q E s:=by
 obtain⟨⟨cls,dd,data,C⟩,m,hc,n,hd⟩:=id ht;obtain⟨⟨z,f,q,g⟩,d,k,B,j⟩:=id hb;simp only at hc hd k j;subst hc hd k j;have e:vs.toArray++ws.toArray=(vs++ws).toArray:=by simp
 by_cases hw:ws=[]
 ·exact concat_meets ⟨_,m,rfl⟩ ⟨_,d,rfl⟩ noFill_tuple_add seq_tuple_add fS fO (fE _ _)
   (tuple_addW1 t b vs.toArray ws.toArray n B dd f C g (by simpa using hv)<|by simp[hw]) ⟨m,d,h1 hw⟩
 ·refine concat_meets ⟨_,m,rfl⟩ ⟨_,d,rfl⟩ noFill_tuple_add seq_tuple_add fS fO (fE _ _)
   (tuple_addW2 t b vs.toArray ws.toArray n B dd f C g (by simpa using hv) (by simpa using hw)<|by rw[aP,aP];exact hsz) ⟨m,d,?_⟩
  rw[e];exact h2 hw
abbrev lW (n d:Nat):bi->Nat
 | none=>d
 | some v=>if v<0 then(v+(n:Int)).toNat else min v.toNat n
def Bw(n d:Nat):lW n d none=d:=rfl
def Nh(n d k:Nat):lW n d (some (k:Int))=min k n:=by
 show(if (k:Int)<0 then((k:Int)+(n:Int)).toNat else min (k:Int).toNat n)=min k n;rw[bu (),Int.toNat_natCast]
def P0(n d:Nat)(hd:d<=n)(o:bi):lW n d o<=n:=by
 cases o with
 | none=>exact hd
 | some v=>
  show(if v<0 then(v+(n:Int)).toNat else min v.toNat n)<=n;by_cases hv:v<0
  ·rw[bf hv];lia
  ·rw[bu hv];exact Nat.min_le_right _ _
def DK(v:Int)(n d:Nat):(if v<0 then max (v+(n:Int)) 0 else min v (n:Int))=((lW n d (some v):Nat):Int):=by
 show(if v<0 then max (v+(n:Int)) 0 else min v (n:Int))=(((if v<0 then(v+(n:Int)).toNat else min v.toNat n):Nat):Int);by_cases hv:v<0
 ·dsimp[bf hv];lia
 ·dsimp[bu hv];lia
def Di(lo hi:bi)(n:Nat):Builtin.Slice.sliceAdjust lo hi 1 (n:Int)=(((lW n 0 lo:Nat):Int),((lW n n hi:Nat):Int)):=by
 have h1:¬((1:Int)<0):=()
 unfold Builtin.Slice.sliceAdjust;dsimp[h1,eG];refine Prod.ext ?_ ?_
 ·cases lo with
  | none=>rfl
  | some v=>exact DK v n 0
 ·cases hi with
  | none=>rfl
  | some v=>exact DK v n n
def Dh(i j:Nat):Builtin.Slice.slicePlaces (i:Int) (j:Int) 1=j-i:=by
 unfold Builtin.Slice.slicePlaces;have h1:(1:Int)>0:=()
 dsimp[h1,fU,ediv_one];split<;>lia
def xP{v:aa}{Q:bi->aA->Prop}(p:IsPart v o)(h:Q o s):wpAny (model prog w) A (Builtin.Slice.slicePartIndex v) Q E s:=by
 cases p with
 | none=>exact slicePart_none h
 | int i t=>exact slicePart_int h
def uY{lo:bi}{n:Nat}{Q:Int×Int×Nat->aA->Prop}(hs:s.heap.IsSliceOf sl vl vu .none)(pl:IsPart vl lo)(pu:IsPart vu hi)
  (h:Q (((lW n 0 lo:Nat):Int),1,lW n n hi-lW n 0 lo) s):wpAny (model prog w) A (Builtin.Slice.sliceApplied (.ref sl)<|pure (n:Int)) Q E s:=by
 obtain⟨os,f,g,d⟩:=id hs;unfold Builtin.Slice.sliceApplied Builtin.Slice.sliceFields;refine aI<|aI<|d8 f d (x:=vl) rfl<|aI<|d8 f d (x:=vu) rfl<|aI<|d8 f d (x:=.none) rfl<|aM ?_;refine aI (slicePart_none ?_)
 skip
 rw[bu ⋯];refine aI<|xP pl<|aI<|xP pu<|aI<|aM ?_;show wpAny _ _ (match Builtin.Slice.sliceAdjust lo hi 1 (n:Int)with|(lo,hi)=>pure (lo,(1:Int),Builtin.Slice.slicePlaces lo hi 1)) _ _ s;rw[Di lo hi n];show wpAny _ _ (pure (((lW n 0 lo:Nat):Int),(1:Int),Builtin.Slice.slicePlaces ((lW n 0 lo:Nat):Int) ((lW n n hi:Nat):Int) 1)) _ _ s;rw[Dh];exact aM h
def JE(xs:Array aa)(i k:Nat):((List.range k).filterMap λ(m:Nat)=>xs[((i:Int)+(m:Int) * 1).toNat]?).toArray=((xs.toList.drop i).take k).toArray:=by
 have e:(λ(m:Nat)=>xs[((i:Int)+(m:Int) * 1).toNat]?)=λm=>xs[i+m]?:=by
  funext m
  have:((i:Int)+(m:Int) * 1).toNat=i+m:=()
  rw[this]
 rw[e];have:=pick_run xs i k;rw[List.filterMap_map]at this;have e2:((λx=>xs[x]?) ∘ λx=>i+x)=λm=>xs[i+m]?:=rfl;rw[e2]at this;rw[this]
def uB{items:Array aa}{lo:bi}{Q:aa->aA->Prop}(ht:IsTup s.heap t items)(hs:s.heap.IsSliceOf sl vl vu .none)(pl:IsPart vl lo)(pu:IsPart vu hi)
  (hw:¬(lW items.size 0 lo=0/\lW items.size items.size hi=items.size))
  (h:Q (.ref s.heap.objs.size) { s with heap:=s.heap.push { cls:=.type "tuple",data:=.seq ((items.toList.drop<|lW items.size 0 lo).take<|lW items.size items.size hi-lW items.size 0 lo).toArray }})
  (hsz:items.size<=sizeLine):wpAny (model prog w) A (getItem (.ref t)<|.ref sl) Q E s:=by
 have d:sizeOk (.seq ((items.toList.drop<|lW items.size 0 lo).take<|lW items.size items.size hi-lW items.size 0 lo).toArray):=by
  show((items.toList.drop<|lW items.size 0 lo).take<|lW items.size items.size hi-lW items.size 0 lo).toArray.size<=sizeLine;rw[aP,cg,cA,dM];omega
 have C:lW items.size items.size hi<=items.size:=P0 _ _ (aL _) hi;obtain⟨os,g,j,z⟩:=id hs;have k:s.TypeIs (.ref sl) "slice" := ⟨os,g,j⟩;unfold getItem
 try with_reducible refine cL ?_
 first|refine aI (aM ?_)|skip
 refine aI<|wpAny_sequenceKey ht.typeIs ⋯ ?_;refine aI (fQ (name:=Str.ofString "__getitem__") ht.typeIs cF
  (gp cF ht.typeIs entry_tuple_getitem ?_<|args_tuple_getitem _ _))
 show wpAny _ _ (Builtin.Tuple.tupleItemsOf (.ref t) >>= _) _ _ s;refine aI<|tupleItemsOf_ ht ?_;refine aI<|wpAny_typeOf k ?_;rw[bf ⋯];refine aI<|uY hs pl pu ?_;have f:¬((((lW items.size 0 lo:Nat):Int) == 0 && (1:Int) == 1 && (lW items.size items.size hi-lW items.size 0 lo) == items.size)=true):=by
  intro q;rw[bE,bE]at q;have B:((lW items.size 0 lo:Nat):Int)=0:=eq_of_beq q.1.1;have F:lW items.size items.size hi-lW items.size 0 lo=items.size:=eq_of_beq q.2;exact hw ⟨by omega,by omega⟩
 show wpAny _ _ (if (((lW items.size 0 lo:Nat):Int) == 0 && (1:Int) == 1 && (lW items.size items.size hi-lW items.size 0 lo) == items.size)=true then _ else _) _ _ s;rw[bu f,JE]
 first
  | exact aI (m:=Builtin.Tuple.tupleExact _) (bV (aM ⟨_,rfl,aM h⟩) d)
  | exact aI (m:=Builtin.Tuple.tupleExact _) (bV (aI<|aM<|aM ⟨_,rfl,aM h⟩) d)
  | exact aI (aI (m:=Builtin.Tuple.tupleExact _)<|bV (aM<|aM ⟨_,rfl,aM h⟩) d)
  | exact aI<|aI (m:=Builtin.Tuple.tupleExact _)<|bV (aM ⟨_,rfl,aM h⟩) d
end
end HT
namespace L2
open PySem PySem.Spec PyProof.Rows
meta abbrev TO:=St->Hp->(bi->Hp->Prop)->Prop
abbrev PO (X:Cx)(e:Option aC)(t:TO):Prop:=
 ∀(pins:bt) (s:aA) (σ:St) (H:Hp) (Q:bi->Hp->Prop),Inv X pins σ H s->t σ H Q ->
  wpAny (model X.prog X.w) X.A (evalPart e X.env) (λu s'=>∃o H',Inv X pins σ H' s'/\IsPart u o/\Q o H') X.xe s
abbrev Ni:TO:=λ_ H Q=>Q none H
abbrev SA (t:TE):TO:=λσ H Q=>t σ H λx H1=>∃i,x=.int i/\Q (some i) H1
def intsAre_of{ns:ae}:∀{us:ar},Vals (ns.map V.int) us->IntsAre us ns:=by
 induction ns with
 | nil=>intro us r;rw[dO]at r;cases r;exact .nil
 | cons n ns d=>
  intro us r;rw[bP]at r
  cases r with
  | cons r1 r2=>
   obtain⟨t,e⟩:=r1;subst e;exact .cons n t<|d r2
section
variable {X:Cx}{e:aC}{te:TE}{lo hi:Option aC}{tl th:TO}{pos p2:Pos}
def Ma:PO X none Ni:=by
 fin2;rw[ir];exact aM ⟨none,H,I,.none,h⟩
def M_(h:PE X e te):PO X (some e) (SA te):=by
 intro pins s σ H Q I hw;rw[evalPart_some];refine ki (h pins s σ H _ I hw) λu f ⟨x,H1,I1,r1,d⟩=>?_;obtain⟨i,rfl,q⟩:=d;obtain⟨t,rfl⟩:=r1;exact⟨some i,H1,I1,.int i t,q⟩
abbrev SG (X:Cx)(r:V->bi->bi->Hp->VK->Prop):Prop:=
 ∀(pins:bt) (s:aA) (σ:St) (H:Hp) (x:V) (v g f:aa) (lo hi:bi) (d:aj) (Q:VK),Inv X pins σ H s->RelV x v->s.heap.IsSliceOf d g f .none->IsPart g lo->IsPart f hi->r x lo hi H Q ->
  ∃T id,typeLookup (.type T) "__getitem__" = pure (some<|.builtin id)/\s.TypeIs v T/\wpAny (model X.prog X.w) X.A (getItem v<|.ref d) (EP X pins σ Q) X.xe s
abbrev Vl (r:V->bi->bi->Hp->VK->Prop)(te:TE)(tl th:TO):TE:=λσ H Q=>te σ H λx H1=>tl σ H1 λl H2=>th σ H2 λu d=>r x l u d Q
def IV{r:V->bi->bi->Hp->VK->Prop}(hr:SG X r)(he:PE X e te)(hl:PO X lo tl)(hu:PO X hi th):PE X (.Subscript e (.Slice lo hi none p2) pos) (Vl r te tl th):=by
 fin2;refine Subscript_<|ki (he pins s σ H _ I h) λv F ⟨x,H1,I1,r1,z⟩=>?_;refine wpAny_Slice<|ki (hl pins F σ H1 _ I1 z) λg k ⟨l,H2,J,C,t⟩=>ki (hu pins k σ H2 _ J t) λf d ⟨u,j,I3,B,m⟩=>?_;rw[ir];refine aM ?_;have G:Inv X pins σ j { d with heap:=d.heap.push { cls:=.type "slice",data:=.fields #[g,f,.none]}}:=I3.kept (t':=d.toks) λb ob q=>aK _ q;obtain⟨T,id,hT,ht,hg⟩:=hr pins { d with heap:=d.heap.push { cls:=.type "slice",data:=.fields #[g,f,.none]}} σ j x v g f l u d.heap.objs.size Q G r1 (gS ..) C B m
 skip
 exact tail_any (ops:=[.ref d.heap.objs.size,v]) ht hT hg<|by with_unfolding_all rfl
abbrev BQ (xs:List V)(lo hi:bi):List V:=(xs.drop<|HT.lW xs.length 0 lo).take<|HT.lW xs.length xs.length hi-HT.lW xs.length 0 lo
def vX(xs:List V)(lo hi:bi):(BQ xs lo hi).length<=xs.length:=by
 unfold BQ;rw[cg,cA]
 lia
abbrev TH (K:aq):V->bi->bi->Hp->VK->Prop:=λx lo hi H Q=>∃a xs,x=.ref a/\m8 K H a xs /\
 ¬(HT.lW xs.length 0 lo=0/\HT.lW xs.length xs.length hi=xs.length)/\∀p,H p=none->Q (.ref p) (upd H p<|.tup<|BQ xs lo hi)
def Qf:SG X (TH X.K):=by
 intro pins s σ H x v z t lo hi B Q I rx hs m k h;obtain⟨a,xs,rfl,hx,hw,q⟩:=h
 cases rx
 obtain⟨f,r,g,j⟩:=I.tuple hx;have d:f.toArray.size=xs.length:=by rw[aP];exact r.length.symm
 refine⟨"tuple",_,cF.lookup,g.typeIs,?_⟩;refine HT.uB g hs m k (by rw[d];exact hw) ?_ (by rw[d];exact j);rw[d];refine⟨.ref s.heap.objs.size,_,I.laid (t':=s.toks) (o:=.tup<|BQ xs lo hi) (λb ob q=>aK _ q) (aL _) ?_,rfl,q _<|I.hok.fresh<|aL _⟩;exact⟨bX (vX xs lo hi) j,_,(r.drop<|HT.lW xs.length 0 lo).take<|HT.lW xs.length xs.length hi-HT.lW xs.length 0 lo,mL.new _ _⟩
abbrev QZ (K:aq):R2:=λx y H Q=>∃a b xs ys,x=.ref a/\y=.ref b/\m8 K H a xs/\m8 K H b ys/\xs≠[]/\xs.length+ys.length<=sizeLine /\
 (ys=[]->Q (.ref a) H)/\(ys≠[]->∀p,H p=none->Q (.ref p) (upd H p<|.tup<|xs++ys))
def Vals.Aw(r:Vals xs us):us=[] ↔ xs=[]:=by
 cases r with
 | nil=>simp
 | cons _ _=>simp
def L8:nO X (binaryOp .Add) (QZ X.K):=by
 ksr_p;obtain⟨a,b,xs,ys,rfl,rfl,m,hb,hx,f,j,g⟩:=h
 cases rx
 cases ry
 obtain⟨k,r1,p1,_⟩:=I.tuple m;obtain⟨d,r2,p2,_⟩:=I.tuple hb;refine HT.Mb p1 p2 (λz=>hx<|r1.Aw.mp z) (λz=>⟨.ref a,H,I,rfl,j<|r2.Aw.mp z⟩) (λz=>?_) (by rw[<- r1.length,<- r2.length];exact f);refine⟨.ref s.heap.objs.size,_,I.laid (t':=s.toks) (o:=.tup<|xs++ys) (λb ob q=>aK _ q) (aL _) ?_,rfl,g (λw=>z<|r2.Aw.mpr w) _<|I.hok.fresh<|aL _⟩;exact⟨by rw[aO];exact f,_,r1.append r2,mL.new _ _⟩
end
abbrev wV (n:Nat)(i:Int):bo:=if 0<=i then(if i<n then some i.toNat else none)else if -(n:Int)<=i then some (i+n).toNat else none
abbrev ng {α:Type}(xs:List α)(i:Int):Option α:=(wV xs.length i).bind λj=>xs[j]?
def Fx{n:Nat}{i:Int}(h:wV n i=some j):seqIndex? i n=some j/\j<n/\-(n:Int)<=i/\i<n:=by
 unfold wV at h;by_cases h0:0<=i
 ·rw[bf h0]at h;by_cases h1:i<n
  ·rw[bf h1]at h;have e:i.toNat=j:=aR h;exact⟨by rw[seqIndex_of h0 h1,e],(),(),h1⟩
  ·rw[bu h1]at h;cases h
 ·rw[bu h0]at h;by_cases h1:-(n:Int)<=i
  ·rw[bf h1]at h;have e:(i+n).toNat=j:=aR h;exact⟨by rw[seqIndex_neg () h1,e],(),h1,()⟩
  ·rw[bu h1]at h;cases h
def Az{α:Type}{xs:List α}{i:Int}{v:α}(h:ng xs i=some v):∃j,seqIndex? i xs.length=some j/\xs[j]?=some v/\j<xs.length/\-(xs.length:Int)<=i/\i<xs.length:=by
 unfold ng at h
 cases e:wV xs.length i with
 | none=>rw[e]at h;cases h
 | some j=>
  rw[e]at h;obtain⟨h1,d,g,f⟩:=Fx e;exact⟨j,h1,h,d,g,f⟩
def Nj{α:Type}{xs:List α}{j:Nat}{v:α}(h:xs[j]?=some v):ng xs (j:Int)=some v:=by
 have d:j<xs.length:=(aJ.mp h).1;have e:wV xs.length (j:Int)=some j:=by
  unfold wV;rw[bf (),bf ()];simp
 unfold ng;rw[e];exact h
abbrev Ax (b:aC):Prop:=∀o i,subscripted b false o i=operate [o,i] (getItem o i)
abbrev PK (X:Cx)(r:R2):Prop:=
 ∀(f d:aC) (pins:bt) (s:aA) (σ:St) (H:Hp) (x y:V) (v u:aa) (Q:VK),Inv X pins σ H s->RelV x v->RelV y u->r x y H Q ->
  subscripted d false v u=operate [v,u] (getItem v u)->wpAny (model X.prog X.w) X.A (subscriptTail f d v u) (EP X pins σ Q) X.xe s
abbrev NU (X:Cx)(id:String)(r:V->List V->Hp->VK->Prop):Prop:=
 ∀(pins:bt) (s:aA) (σ:St) (H:Hp) (x:V) (xs:List V) (v:aa) (us:ar) (Q:VK),Inv X pins σ H s->RelV x v->Vals xs us->r x xs H Q ->
  wpAny (model X.prog X.w) X.A (call (.builtin id) (v::us)) (EP X pins σ Q) X.xe s
section
variable {X:Cx}{a b:aC}{ta tb:TE}{pos:Pos}
def Of{r:R2}(hr:PK X r)(ha:PE X a ta)(hb:PE X b tb)(hs:Ax b):PE X (.Subscript a b pos) (Q6 r ta tb):=by
 fin2;exact Subscript_<|O4 ha hb I h λv u d x y H2 f rx ry q=>hr a b pins d σ H2 x y v u Q f rx ry q<|hs _ _
abbrev Tp (K:aq):R2:=λx y H Q=>∃p xs i v,x=.ref p/\y=.int i/\kP K H p xs/\ng xs i=some v/\Q v H
abbrev TQ (K:aq):R2:=λx y H Q=>∃p xs i v,x=.ref p/\y=.int i/\m8 K H p xs/\ng xs i=some v/\Q v H
abbrev Uj:R2:=λx y H Q=>∃z i c,x=.str z/\y=.int i/\z.length<=sizeLine/\ng z.cps.toList i=some c/\Q (.str ⟨#[c]⟩) H
def Gd:PK X (Tp X.K):=by
 intro B f pins s σ H x y v u Q I rx ry h hs;obtain⟨p,xs,i,z,rfl,rfl,N,J,q⟩:=h
 cases rx
 obtain⟨t,rfl⟩:=ry;obtain⟨k,r,m,V⟩:=I.list N;obtain⟨j,h1,O,U,P,G⟩:=Az J;obtain⟨w,F,g⟩:=r.get O;have L:=r.length;have hn:=uQ;have d:EP X pins σ Q w s:=⟨z,H,I,g,q⟩;by_cases h0:0<=i
 ·have C:i.toNat=j:=by
   rw[seqIndex_of h0 G]at h1;exact aR h1
  exact item_listR m.isList h0 () (by rw[C];simpa using F) d hs
 ·have C:(i+(k.toArray.size:Int)).toNat=j:=by
   rw[seqIndex_neg () P]at h1;rw[aP,<- L];exact aR h1
  exact subscriptTail_builtinR (x:=w) m.isList.typeIs g_.lookup
   (wpAny_getItem_list_neg (Q:=λr s'=>r=w/\EP X pins σ Q r s') m.isList () (by rw[aP]<;>lia) () (by rw[C];simpa using F) ⟨rfl,d⟩) hs
def Pe:PK X (TQ X.K):=by
 intro k d pins s σ H x y v u Q I rx ry h hs;obtain⟨p,xs,i,z,rfl,rfl,J,C,q⟩:=h
 cases rx
 obtain⟨t,rfl⟩:=ry;obtain⟨F,r,m,U⟩:=I.tuple J;obtain⟨j,h1,L,O,P,N⟩:=Az C;obtain⟨w,B,f⟩:=r.get L;have G:=r.length;have hn:=uQ;have g:EP X pins σ Q w s:=⟨z,H,I,f,q⟩;exact subscriptTail_builtinR (x:=w) m.typeIs slot_tuple_getitem.lookup
  (getItem_tuple (j:=j) (Q:=λr s'=>r=w/\EP X pins σ Q r s') m () () (by rw[aP,<- G];exact h1) (by simpa using B) ⟨rfl,g⟩) hs
def Ow:PK X Uj:=by
 intro f d pins s σ H x y v u Q I rx ry h hs;obtain⟨z,i,c,rfl,rfl,J,k,q⟩:=h;obtain⟨t,rfl⟩:=rx;obtain⟨G,rfl⟩:=ry;obtain⟨j,h1,B,F,C,g⟩:=Az k;have m:z.cps.toList.length=z.length:=by simp[Str.length]
 rw[m]at h1 C g;have hn:=uQ;exact tail_any (typeIs_str s z t) slot_str_getitem.lookup (getItem_str (c:=c) (by
  have e1:decide (i < -(2 ^ 63:Int))=false:=aY ();have e2:decide (i>=2 ^ 63)=false:=aY ();rw[e1,e2,Bool.or_false]) (by rw[h1];simpa using B) ⟨.str ⟨#[c]⟩,H,I.tok _,⟨_,rfl⟩,q⟩) hs
def Dp(its:ar)(n j:Nat)(u:aa):Obj.mapSeq (·.setIfInBounds j u) { cls:=.type "list",data:=.seq its.toArray n }={ cls:=.type "list",data:=.seq (its.set j u).toArray n }:=by
 simp[Obj.mapSeq]
def Inv.lst{H:Hp}{s:aA}{p:aj}{xs:List V}(I:Inv X pins σ H s)(h:H p=some (.lst xs)) :
  ∃(its:ar) (n:Nat),Vals xs its/\s.heap.get? p=some { cls:=.type "list",data:=.seq its.toArray n }/\xs.length<=sizeLine:=by
 obtain⟨z,its,n,r,e⟩:=I.hok p _ h;exact⟨its,n,r,e,z⟩
def Inv.OS{H:Hp}{s:aA}{p:aj}{ys:List V}{its its':ar}{n:Nat}{f:Obj->Obj}(I:Inv X pins σ H s)(h:H p=some (.lst xs))
  (ho:s.heap.get? p=some { cls:=.type "list",data:=.seq its.toArray n }) (hf:f { cls:=.type "list",data:=.seq its.toArray n }={ cls:=.type "list",data:=.seq its'.toArray n' }) (r:Vals ys its') (hz:ys.length<=sizeLine) (t:Nat) :
  Inv X pins σ (upd H p<|.lst ys) { s with heap:=s.heap.update p f,toks:=t }:=by
 have e:(s.heap.update p f).get? p=some { cls:=.type "list",data:=.seq its'.toArray n' }:=by
  rw[dU f ho<|by rw[hf]<;>rfl,hf]
 refine I.write (x:=p) (e:=p) (by rw[h];trivial) (.inl rfl) (λb u hb q=>(cD _ _<|cQ hb).trans q) ⟨_,e⟩ ?_;exact⟨hz,its',n',r,e⟩
abbrev QI:V->V->V->Hp->(Hp->Prop)->Prop:=λo i v H Q=>∃p xs k j,o=.ref p/\i=.int k/\H p=some (.lst xs)/\wV xs.length k=some j/\Q (upd H p<|.lst<|xs.set j v)
def set_list:Qo X QI:=by
 intro pins s σ H o i v P N u Q I J F G h;obtain⟨p,xs,k,j,rfl,rfl,hp,K,q⟩:=h
 cases J
 obtain⟨t,rfl⟩:=F;obtain⟨d,n,r,m,L⟩:=I.lst hp;obtain⟨h1,O,B,C⟩:=Fx K;have g:=r.length;have hn:=uQ;have z:Inv X pins σ (upd H p<|.lst<|xs.set j v) { s with heap:=s.heap.update p<|Obj.mapSeq (·.setIfInBounds j u)}:=
  I.OS hp m (Dp d n j u) (r.set G j) (by rw[aZ];exact L) s.toks
 by_cases h0:0<=k
 ·have f:k.toNat=j:=by
   rw[seqIndex_of h0 C]at h1;exact aR h1
  exact PySem.W.ki_setAt m h0 () (by rw[aP,<- g];exact C)<|by rw[f];exact⟨_,z,q⟩
 ·have f:(k+(d.toArray.size:Int)).toNat=j:=by
   rw[seqIndex_neg () B]at h1;rw[aP,<- g];exact aR h1
  exact PySem.W.ki_setBack m () (by rw[aP,<- g];exact B) ()<|by rw[f];exact⟨_,z,q⟩
def Ao(lo hi:bi)(n:Nat):(sliceBounds lo hi none n).1=((HT.lW n 0 lo:Nat):Int)/\(sliceBounds lo hi none n).2.1=((HT.lW n n hi:Nat):Int)/\(sliceBounds lo hi none n).2.2=1:=by
 refine⟨?_,?_,rfl⟩
 ·cases lo with
  | none=>simp[sliceBounds,HT.lW]
  | some i=>
   dsimp[sliceBounds,HT.lW,getD_none,show(1:Int)>0 by decide,fU];by_cases h:i<0
   ·dsimp[h,fU]<;>lia
   ·dsimp[h,eG]<;>lia
 ·cases hi with
  | none=>simp[sliceBounds,HT.lW]
  | some i=>
   dsimp[sliceBounds,HT.lW,getD_none,show(1:Int)>0 by decide,fU];by_cases h:i<0
   ·dsimp[h,fU]<;>lia
   ·dsimp[h,eG]<;>lia
def yG(its:ar)(lo hi:bi):slicePick its.toArray lo hi none=((its.drop<|HT.lW its.length 0 lo).take<|HT.lW its.length its.length hi-HT.lW its.length 0 lo).toArray:=by
 obtain⟨h1,d,f⟩:=Ao lo hi its.toArray.size;unfold slicePick;rw[h1,d,f];dsimp[sliceRange_one,pick_run,aP]<;>rfl
abbrev UA (K:aq):V->bi->bi->Hp->VK->Prop:=λx lo hi H Q=>∃a xs,x=.ref a/\kP K H a xs/\∀p,H p=none->Q (.ref p) (upd H p<|.lst<|BQ xs lo hi)
def E4:SG X (UA X.K):=by
 intro pins s σ H x v z t lo hi B Q I rx hs k g h;obtain⟨a,xs,rfl,hx,q⟩:=h
 cases rx
 obtain⟨j,r,f,m⟩:=I.list hx;have d:=r.length;refine⟨"list",_,g_.lookup,f.isList.typeIs,?_⟩;refine wpAny_getItem_list_slice f.isList hs k g .none (by simp) ?_ (by rw[aP]<;>lia);rw[yG,<- d];refine⟨.ref s.heap.objs.size,_,I.laid (t':=s.toks) (o:=.lst<|BQ xs lo hi) (λb ob q=>aK _ q) (aL _) ?_,rfl,q _<|I.hok.fresh<|aL _⟩;exact⟨bX (vX xs lo hi) m,_,0,(r.drop<|HT.lW xs.length 0 lo).take<|HT.lW xs.length xs.length hi-HT.lW xs.length 0 lo,bC _ rfl⟩
def qi:jH X (.type "list") (λxs H Q=>∃p ys,xs=[.ref p]/\(kP X.K H p ys\/m8 X.K H p ys)/\∀l,H l=none->Q (.ref l) (upd H l<|.lst ys)):=by
 gp_on;obtain⟨p,ys,rfl,k,q⟩:=h;kln_w
 cases rx
 have m:∀(d:ar),Vals ys d->ys.length<=sizeLine->∀(h':ak) (g:Nat),(∀b o',s.heap.get? b=some o'->h'.get? b=some o') ->
   h'.get? s.heap.objs.size=some { cls:=.type "list",dict:=none,data:=.seq d.toArray g,slots:=#[]}->EP X pins σ Q (.ref s.heap.objs.size) { s with heap:=h' }:=λd f t h' g kp e=>
  ⟨.ref s.heap.objs.size,_,I.laid (t':=s.toks) kp (aL _)<|show j6 X.prog X.w _ h' _ (.lst ys)from⟨t,d,g,f,e⟩,rfl,q _<|I.hok.fresh<|aL _⟩
 rcases k with k|k
 ·obtain⟨d,f,z,t⟩:=I.list k;have j:=f.length;obtain⟨o,B,hc,n,hd⟩:=z.isList;exact call_list_seq p (.inl rfl) B hc hd (λh' g kp e=>m d f t h' g kp e) (by dsimp[aP]<;>lia)
 ·obtain⟨d,f,z,t⟩:=I.tuple k;have j:=f.length;obtain⟨o,B,hc,n,hd⟩:=z;exact call_list_seq p (.inr rfl) B hc hd (λh' g kp e=>m d f t h' g kp e)<|by dsimp[aP]<;>lia
def pF:jH X (.type "tuple") (λxs H Q=>∃p ys,xs=[.ref p]/\((kP X.K H p ys/\∀l,H l=none->Q (.ref l) (upd H l<|.tup ys))\/(m8 X.K H p ys/\Q (.ref p) H))):=by
 gp_on;obtain⟨p,ys,rfl,h⟩:=h;kln_w
 cases rx
 rcases h with⟨j,q⟩|⟨j,q⟩
 ·obtain⟨d,f,g,m⟩:=I.list j;have k:=f.length;refine call_tuple_list g.isList (λh' kp=>?_) (by dsimp[aP]<;>lia);have I1:Inv X pins σ H { s with heap:=h' }:=I.kept (t':=s.toks) kp;have t:Inv X pins σ (upd H h'.objs.size<|.tup ys) { s with heap:=h'.push { cls:=.type "tuple",data:=.seq d.toArray }}:=
   I1.laid (t':=s.toks) (λb o e=>aK _ e) (aL _) (show j6 X.prog X.w _ _ _ (.tup ys)from⟨m,d,f,mL.new _ _⟩)
  exact⟨.ref h'.objs.size,_,t,rfl,q _<|I1.hok.fresh<|aL _⟩
 ·obtain⟨d,f,g,m⟩:=I.tuple j;exact call_tuple_same g ⟨.ref p,H,I,rfl,q⟩
abbrev SE (K:aq)(T:String)(x:V)(H:Hp):Prop:=match x with
 | .str _=>T = "str"
 | .int _=>T = "int"
 | .ref p=>(T = "list" /\ ∃xs,kP K H p xs)\/(T = "tuple" /\ ∃o,K.lookup p=some o/\o.cls=.type "tuple" /\ o.dict=none) \/
   (T = "dict" /\ ((∃kvs,H p=some (.dK kvs))\/∃kvs,H p=some (.dT kvs)))\/(T = "set" /\ ∃S n,H p=some (.set S n))
 | _=>False
def Ku{H:Hp}{s:aA}{x:V}{v:aa}(I:Inv X pins σ H s)(r:RelV x v)(ty:SE X.K T x H) :
  s.TypeIs v T/\∀a,v=.ref a->∃ob,s.heap.get? a=some ob/\ob.dict=none:=by
 cases x with
 | str z=>
  obtain⟨t,rfl⟩:=r
  cases(show T = "str" from ty)
  exact⟨typeIs_str s z t,nofun⟩
 | int i=>
  obtain⟨t,rfl⟩:=r
  cases(show T = "int" from ty)
  exact⟨typeIs_int s i t,nofun⟩
 | ref p=>
  cases r
  rcases ty with⟨rfl,xs,j⟩|⟨rfl,o,d,hc,hd⟩|⟨rfl,d⟩|⟨rfl,S,n,d⟩
  ·obtain⟨g,_,f,_⟩:=I.list j;refine⟨f.isList.typeIs,λa e=>?_⟩
   cases e
   obtain⟨o,n,e,c,hd,_⟩:=f;exact⟨o,e,hd⟩
  ·refine⟨⟨o,I.wj p o d,hc⟩,λa e=>?_⟩
   cases e
   exact⟨o,I.wj _ o d,hd⟩
  ·have z:∃o,s.heap.get? p=some o/\o.ExactDict:=by
    rcases d with⟨kvs,d⟩|⟨kvs,d⟩
    ·obtain⟨_,_,_,_,o,_,_,e,ex,_⟩:=I.hok p _ d;exact⟨o,e,ex⟩
    ·obtain⟨_,_,_,_,o,_,_,e,ex,_⟩:=I.hok p _ d;exact⟨o,e,ex⟩
   obtain⟨o,e,ex⟩:=z;refine⟨⟨o,e,ex.1⟩,λa e2=>?_⟩
   cases e2
   exact⟨o,e,ex.2.1⟩
  ·obtain⟨o,_,_,_,e,ex,_⟩:=I.hok p _ d;refine⟨⟨o,e,ex.1⟩,λa e2=>?_⟩
   cases e2
   exact⟨o,e,ex.2.1⟩
 | _=>exact False.elim ty
abbrev SY (K:aq)(T:String)(r:V->List V->Hp->VK->Prop)(to:TE):TE:=λσ H Q=>to σ H λx H1=>SE K T x H1/\r x [] H1 Q
abbrev VF (K:aq)(T:String)(r:V->List V->Hp->VK->Prop)(to:TE)(t:TA):TE:=λσ H Q=>to σ H λx H1=>SE K T x H1/\t σ H1 λxs H2=>r x xs H2 Q
variable {o e:aC}{es:List aC}{to:TE}{t:TA}{name:Str}{apos cpos:Pos}{T id:String}{r:V->List V->Hp->VK->Prop}
def Qz(pa:PlainAttrs T)(slot:Slot T name id)(hty:typeOf (.builtin id)=pure (.type "method_descriptor"))(hm:NU X id r)(ho:PE X o to)
  (hbase:attributeBase o name X.env (eval o X.env)=eval o X.env:=by rfl) (hline:(apos.endLine == cpos.line)=true:=by rfl):PE X (.Call (.Attribute o name apos) [] [] cpos) (SY X.K T r to):=by
 fin2;refine wpAny_Call_method0_late hbase hline<|ki (ho pins s σ H _ I h) λv f ⟨x,H1,I1,r1,ty,g⟩=>?_;obtain⟨h1,d⟩:=Ku I1 r1 ty;exact⟨T,id,pa,slot,hty,h1,d,Calls.callWith_builtin rfl<|PySem.evalArgs_none<|hm pins f σ H1 x [] v [] Q I1 r1 .nil g⟩
def RE(pa:PlainAttrs T)(slot:Slot T name id)(hty:typeOf (.builtin id)=pure (.type "method_descriptor"))(hm:NU X id r)(ho:PE X o to)(ha:PA X (e::es) t)
  (hbase:attributeBase o name X.env (eval o X.env)=eval o X.env:=by rfl)
  (hfew:((backTo cpos<|starEach (e::es) X.env).all (λx=>!x.1) && (backToKw cpos<|keywordEach [] X.env).all (λx=>x.1.isSome)
   && decide ((e::es).length+([]:List Keyword).length+(if ([]:List Keyword).isEmpty then 0 else 1)<30))=true:=by rfl)
  (hline:(apos.endLine == cpos.line)=true:=by rfl) (hs:starEach (e::es) X.env=(false,eval e X.env)::starEach es X.env:=by rfl) (hplain:(backTo cpos<|starEach es X.env).any (·.1)=false:=by rfl) :
  PE X (.Call (.Attribute o name apos) (e::es) [] cpos) (VF X.K T r to t):=by
 fin2;refine wpAny_Call_method_late hbase hfew hline rfl<|ki (ho pins s σ H _ I h) λv k ⟨x,H1,I1,r1,ty,q⟩=>?_;obtain⟨h1,g⟩:=Ku I1 r1 ty;refine⟨T,id,pa,slot,hty,h1,g,?_⟩;have d:=ha cpos pins k σ H1 _ I1 q;rw[hs]at d ⊢;refine Calls.callWith_builtin (by show(false || (backTo cpos<|starEach es X.env).any (·.1))=false;rw[hplain]<;>rfl)<|Calls.evalArgs_plain ?_;exact ki d λus f ⟨vs,H2,j,r2,m⟩=>hm pins f σ H2 x vs v us Q j r1 r2 m
end
abbrev Us (X:Cx)(id:String)(r:V->List V->Hp->VK->Prop):Prop:=
 ∀(pins:bt) (s:aA) (σ:St) (H:Hp) (x:V) (xs:List V) (v:aa) (us:ar) (Q:VK),Inv X pins σ H s->RelV x v->Vals xs us->r x xs H Q ->
  wpAny (model X.prog X.w) X.A (call (.builtin id) (v::us)) (EP X pins σ Q) X.xe s
def Vals.one:∀{x:V}{us:ar},Vals [x] us->∃u,us=[u]/\RelV x u
 | _,_,.cons r .nil=>⟨_,rfl,r⟩
def Vals.two:∀{x y:V}{us:ar},Vals [x,y] us->∃u v,us=[u,v]/\RelV x u/\RelV y v:=vals2
def Vals.zero:∀{us:ar},Vals [] us->us=[]
 | _,.nil=>rfl
def Vals.dropLast{xs:List V}{us:ar}(h:Vals xs us):Vals xs.dropLast us.dropLast:=by
 induction h with
 | nil=>exact .nil
 | cons r t d=>
  cases t with
  | nil=>exact .nil
  | cons q f=>exact .cons r d
theorem Vals.eraseIdx:∀{xs:List V}{us:ar}(i:Nat),Vals xs us->Vals (xs.eraseIdx i) (us.eraseIdx i)
 | _,_,_,.nil=>.nil
 | _,_,0,.cons _ t=>t
 | _,_,i+1,.cons r t=>.cons r<|Vals.eraseIdx i t
def Vals.reverse{xs:List V}{us:ar}(h:Vals xs us):Vals xs.reverse us.reverse:=by
 induction h with
 | nil=>exact .nil
 | cons r t d=>rw[fV,fV];exact Vals.append d<|.cons r .nil
theorem Vals.rep(h:Vals xs us):∀k:Nat,Vals (List.replicate k xs).flatten (List.replicate k us).flatten
 | 0=>.nil
 | k+1=>by
  rw[dh,dh,bI,bI];exact Vals.append h<|Vals.rep h k
def Ct{α:Type}(l:List α):l.eraseIdx (l.length-1)=l.dropLast:=by
 induction l with
 | nil=>rfl
 | cons a r d=>
  cases r with
  | nil=>rfl
  | cons b r=>
   have e:(a::b::r).length-1=((b::r).length-1)+1:=by
    have h1:(a::b::r).length=r.length+2:=rfl;have f:(b::r).length=r.length+1:=rfl
    lia
   rw[e,List.eraseIdx_cons_succ,d]
   all_goals rfl
theorem yT{α:Type}:∀(l:List α) (i:Nat),(l.eraseIdx i).length<=l.length
 | [],_=>aL _
 | _::_,0=>le_succ _
 | _::r,i+1=>eK<|yT r i
theorem foldl_rep(its:ar):∀(k:Nat) (acc:ar),
  List.foldl (λx1 x2=>x1++x2) acc.toArray (List.replicate k its.toArray)=(acc++(List.replicate k its).flatten).toArray
 | 0,acc=>by simp
 | k+1,acc=>by
  have e:acc.toArray++its.toArray=(acc++its).toArray:=by simp
  have e2:(acc++its)++(List.replicate k its).flatten=acc++(List.replicate (k+1) its).flatten:=by
   rw[dh,bI,bZ]
  rw[<- e2,<- foldl_rep its k (acc++its),<- e,dh,List.foldl_cons]
section
variable {X:Cx}{pins:bt}{σ:St}{H:Hp}{s:aA}{l:aj}{xs ys:List V}
def Inv.Ms{its its':ar}{n:Nat}{f:Array aa->Array aa}{t':Nat}(I:Inv X pins σ H s)(hH:H l=some (.lst xs))
  (e:s.heap.get? l=some { cls:=.type "list",data:=.seq its.toArray n }) (hf:f its.toArray=its'.toArray) (hv:Vals ys its') (hz:ys.length<=sizeLine) :
  Inv X pins σ (upd H l<|.lst ys) { s with heap:=s.heap.update l<|Obj.mapSeq f,toks:=t' }:=by
 have q:=PySem.IsL.update e f;rw[hf]at q;refine I.write (x:=l) (e:=l) (by rw[hH];exact trivial) (.inl rfl) (λg u hb d=>(cD s.heap (Obj.mapSeq f)<|cQ hb).trans d) ⟨_,q⟩ ?_;exact⟨hz,its',_,hv,q⟩
def Inv.Lq{its:ar}{t':Nat}(I:Inv X pins σ H s)(hv:Vals ys its)(hz:ys.length<=sizeLine) :
  Inv X pins σ (upd H s.heap.objs.size<|.lst ys) { s with heap:=s.heap.push { cls:=.type "list",data:=.seq its.toArray },toks:=t' }:=
 I.laid (λ_ _ q=>aK _ q) (aL _) ⟨hz,its,0,hv,bC _ rfl⟩
def Inv.fresh(I:Inv X pins σ H s):H s.heap.objs.size=none:=I.hok.fresh<|aL _
def Inv.yF(I:Inv X pins σ H s)(hH:H l=some (.lst xs)):xs.length<=sizeLine/\∃(its:ar) (n:Nat),Vals xs its/\xs.length=its.length/\s.heap.get? l=some { cls:=.type "list",data:=.seq its.toArray n }:=by
 obtain⟨z,its,n,r,e⟩:=I.hok l _ hH;exact⟨z,its,n,r,r.length,e⟩
def IY{n:Nat}(h:n<=sizeLine):Builtin.List.listTooLong n=false:=by
 unfold Builtin.List.listTooLong;exact aY ()
end
section
variable {X:Cx}
abbrev M8:V->List V->Hp->VK->Prop:=λx vs H Q=>∃l xs y,x=.ref l/\vs=[y]/\H l=some (.lst xs)/\xs.length<sizeLine/\Q .jC (upd H l<|.lst<|xs++[y])
def u_:Us X "list.append" M8:=by
 intro pins s σ H x vs v us Q I rx g h;obtain⟨l,xs,y,rfl,rfl,f,m,q⟩:=h
 cases rx
 obtain⟨u,rfl,j⟩:=g.one;obtain⟨z,d,n,r,k,e⟩:=I.yF f;refine gT F.slot_list_append ⟨_,e,rfl⟩ F.entry_list_append (F.args_list_append_2 _ _) (PySem.list_append l d.toArray n u<|by rw[aP];lia) ⟨e,?_⟩;refine⟨.jC,_,I.Ms (its':=d++[u]) f e (by simp) (r.append<|.cons j .nil) ?_,rfl,q⟩;rw[aO,List.length_singleton]
 lia
abbrev UG:V->List V->Hp->VK->Prop:=λx vs H Q=>∃l xs y,x=.ref l/\vs=[]/\H l=some (.lst xs)/\xs[xs.length-1]?=some y/\Q y (upd H l<|.lst xs.dropLast)
def Pn:Us X "list.pop" UG:=by
 intro pins s σ H x vs v us Q I rx t h;obtain⟨l,xs,y,rfl,rfl,j,hy,q⟩:=h
 cases rx
 have g:=t.zero;subst g;obtain⟨z,d,n,r,m,e⟩:=I.yF j;obtain⟨u,k,B⟩:=r.get hy;have f:d.toArray[d.toArray.size-1]?=some u:=by
  show d.toArray[d.length-1]?=some u;rw[<- gi,<- m];exact k
 refine gT F.slot_list_pop ⟨_,e,rfl⟩ F.entry_list_pop (F.args_list_pop_1 _) (MeetsSeq.list_pop_last l d.toArray n u f<|by rw[aP];lia) ⟨e,?_⟩;refine⟨y,_,I.Ms (its':=d.dropLast) j e ?_ r.dropLast ?_,B,q⟩
 ·skip
  rw[aP,gf,Ct]
 ·rw[eY]
  lia
abbrev OT:V->List V->Hp->VK->Prop:=λx vs H Q=>∃l xs i k y,x=.ref l/\vs=[.int i]/\H l=some (.lst xs)/\-(2 ^ 63)<=i/\i<2 ^ 63/\seqIndex? i xs.length=some k/\xs[k]?=some y/\Q y (upd H l<|.lst<|xs.eraseIdx k)
def Ld:Us X "list.pop" OT:=by
 intro pins s σ H x vs v us Q I rx B h;obtain⟨l,xs,i,k,y,rfl,rfl,g,h1,G,j,hy,q⟩:=h
 cases rx
 obtain⟨u,rfl,C⟩:=B.one;obtain⟨t,rfl⟩:=C;obtain⟨z,d,n,r,m,e⟩:=I.yF g;obtain⟨w,hw,f⟩:=r.get hy;refine gT F.slot_list_pop ⟨_,e,rfl⟩ F.entry_list_pop (F.args_list_pop_2 _ _)
  (MeetsSeq.list_pop_at l d.toArray n i t k w (fitsIndex_both h1 G) (by rw[aP,<- m];exact j) (by rw[<- gi];exact hw)<|by rw[aP];lia) ⟨e,?_⟩
 refine⟨y,_,I.Ms (its':=d.eraseIdx k) g e ?_ (r.eraseIdx k) ?_,f,q⟩
 ·skip
  rw[gf]
 ·have:=yT xs k
  lia
abbrev S_:R2:=λx y H Q=>∃l b xs zs,x=.ref l/\y=.ref b/\H l=some (.lst xs)/\H b=some (.lst zs)/\xs.length+zs.length<=sizeLine/\∀p,H p=none->Q (.ref p) (upd H p<|.lst<|xs++zs)
def OF:nO X (binaryOp .Add) S_:=by
 ksr_p;obtain⟨l,b,xs,zs,rfl,rfl,k,g,F,q⟩:=h
 cases rx
 cases ry
 obtain⟨z,f,n,r,B,e⟩:=I.yF k;obtain⟨C,d,t,r2,m,e2⟩:=I.yF g;refine PySem.P.add_list e e2 ?_ (by rw[aP,aP];lia);have j:f.toArray++d.toArray=(f++d).toArray:=by simp
 rw[j];exact⟨.ref _,_,I.Lq (t':=s.toks) (r.append r2)<|by rw[aO];lia,rfl,q _ I.fresh⟩
abbrev TF:R2:=λx y H Q=>∃l k xs,x=.ref l/\y=.int k/\H l=some (.lst xs)/\-(2 ^ 63)<=k/\k<2 ^ 63/\xs.length * k.toNat<=sizeLine /\
 ∀p,H p=none->Q (.ref p) (upd H p<|.lst (List.replicate k.toNat xs).flatten)
def len_rep{α:Type}(xs:List α)(k:Nat):(List.replicate k xs).flatten.length=k * xs.length:=by
 induction k with
 | zero=>simp
 | succ k d=>rw[dh,bI,aO,d,Nat.succ_mul,Nat.add_comm]
def O_:nO X (binaryOp .Mult) TF:=by
 ksr_p;obtain⟨l,k,xs,rfl,rfl,N,h1,O,K,q⟩:=h
 cases rx
 obtain⟨t,rfl⟩:=ry;obtain⟨z,d,n,r,L,e⟩:=I.yF N;have j:d.toArray.size * k.toNat<=sizeLine:=by rw[aP,<- L];exact K
 have g:¬d.toArray.size * k.toNat>(2 ^ 63-1) / 8:=by
  have:(sizeLine:Nat)<=(2 ^ 63-1) / 8:=by decide
  omega
 have B:¬(!Builtin.List.listFitsIndex k)=true:=by
  rw[fitsIndex_both h1 O];exact bz
 have f:¬Builtin.List.listTooLong (d.toArray.size * k.toNat)=true:=by
  rw[IY j];exact bz
 have C:List.foldl (λJ G=>J++G) #[] (List.replicate (if d.toArray.isEmpty=true then 0 else k.toNat) d.toArray)=(List.replicate k.toNat d).flatten.toArray:=by
  have f0:∀m:Nat,List.foldl (λJ G=>J++G) #[] (List.replicate m d.toArray)=(List.replicate m d).flatten.toArray:=λm=>by
   have:=foldl_rep d m [];rw[fH]at this;exact this
  rw[f0]
  cases d with
  | nil=>simp
  | cons a P=>rw[bu<|by simp]
 refine wpAny_binaryOp_repeat_ref (T := "list") (U := "int") ⋯ ⟨_,e,rfl⟩ (λs'=>typeIs_int s' k t) noFill_list_mul F.fills_int_mul F.slot_int_rmul repeat_list F.slot_int_index.lookup
  (gT F.slot_int_rmul (typeIs_int s k t) F.entry_int_rmul (F.args_int_rmul_2 _ _) (int___rmul___int_list k t l d.toArray n)
   ⟨e,rfl,⟨_,e,rfl⟩,gT F.slot_list_mul ⟨_,e,rfl⟩ F.entry_list_mul (F.args_list_mul_2 _ _) (AutoListH.list___mul___list_int_3 l d.toArray n k t B g f) ⟨e,?_⟩⟩)
 rw[C];exact⟨.ref _,_,I.Lq (t':=s.toks) (r.rep k.toNat)<|by rw[len_rep,Nat.mul_comm];exact K,rfl,q _ I.fresh⟩
end
end L2
namespace Att
open PySem PySem.W PySem.Calls PyProof.Rows
def wC{P:Params}:∀(ns:ae) (vs:ar),WellAll P h vs (ns.map WData.int)->IntsAre vs ns:=by
 intro ns
 induction ns with
 | nil=>
  intro vs w;rw[dO]at w
  cases w
  exact .nil
 | cons n ns d=>
  intro vs w;rw[bP]at w
  cases w with
  | cons a b=>
   cases a
   exact .cons _ _<|d _ b
def GG{l:OpenLaw}{n:Nat}(hn:l.most=some n){P:Params}{h:ak}
  (hpre:l.row.toRowW.claim.pre args=true) (hwl:WellAll P h vals args) :
  ∃a vs ns,vals=[Value.ref a]/\args=[WData.list<|ns.map WData.int]/\h.get? a=some { cls:=.type "list",data:=.seq vs.toArray }/\IntsAre vs ns/\ns.length<=n:=by
 have m:WShape.hasAll [] args [.list .int]=true:=(pre_splitW hpre).1;have hc:l.pre.holds [] { args:=args }=true:=(pre_splitW hpre).2;obtain⟨d,r,rfl,h1,C⟩:=hasAllW_cons m;obtain rfl:=hasAllW_nil C;obtain⟨xs,rfl,t⟩:=hasW_list h1;obtain⟨ns,rfl⟩:=items_int t;have f:ns.length<=n:=by
  unfold OpenLaw.pre at hc;have k:(WTm.not<|.lt (.lit<|.int (n:Int))<|.len<|.arg 0).holds [] { args:=[.list<|ns.map .int]}=true:=by
   have k:=(holds_andW hc).1;rw[hn]at k;exact k
  have j:=condW_of k<|w_not<|w_lt w_lit<|w_len_list<|w_arg rfl;rw[aH]at j;refine Nat.le_of_not_lt λq=>?_;have q':(n:Int)<((ns.length:Nat):Int):=by omega
  first
   | (rw[aX q']at j;exact absurd j ⋯)
   | (simp at j;omega)
 cases hwl with
 | cons B z=>
  cases z
  cases B with
  | list F g=>exact⟨_,_,ns,rfl,rfl,F,wC ns _ g,f⟩
def Gv(l:OpenLaw)(args:List WData):l.row.toRowW.claim.post args (.bool true) args=true:=
 postW_of (r:=l.row.toRowW) (X:=(true == true))
  (show WShape.has [] (.bool true) .bool=true by first|rfl|decide|simp[WShape.has,WShape.arms,WShape.armsAll])
  (show(WTm.eq .res<|.lit<|.bool true).value [] { args:=args,res:=some<|.bool true,after:=args }=some (.bool<|true == true)from w_eq_bool (w_res rfl) w_lit) rfl
def Cf{l:OpenLaw}{n:Nat}{q:ah}{XP:(Str->be)->ak->Prop}{YP:af->ak->Prop}{d:DefRec}
  (hn:l.most=some n) (hdf:d.params.defaults=[])
  (call:∀(w:af) (s₀ s₁:aA) (mg mb:Str->be) (fa:aj) (o:Obj) (pm cd doc:aa) (a:aj) (vs:ar) (ns:ae),
   Ground q loose [] XP w s₀ mg mb s₁.heap->YP w s₁.heap ->
   s₁.heap.get? fa=some o->o.data=.func (docDef d.name d.params d.body d.scope pm cd doc)->s₁.heap.CodeRec cd d.name->mg d.name=some (.ref fa) ->
   s₁.heap.get? a=some { cls:=.type "list",data:=.seq vs.toArray }->IntsAre vs ns->ns.length<=n->s₁.gens=#[] ->
   codeAny (model l.prog w) callerA (.call (.ref fa) ⟨[.ref a],[]⟩) (λr s'=>r=.ok (.ret<|.bool true)/\OldK s₁.heap s'.heap/\s'.os=s₁.os/\AllBare s'.gens) s₁) :
  WalkO q loose XP YP l.row.toRowW d [] (λf vs=>PySem.call f vs):=by
 intro w s₀ s₁ mg mb G Y fa o pm cd doc L kV Z hd t C B hg K F as m J W z N;obtain rfl:L=.none:=Dflts.none C hdf;obtain rfl:kV=.none:=Dflts.noKw C;obtain⟨a,vs,ns,rfl,rfl,k,g,j⟩:=GG hn m z;refine enter_call<|eU (call w s₀ s₁ mg mb fa o pm cd doc a vs ns G Y Z (fd_plain hd) t B k g j hg) λr s' P=>?_;obtain⟨rfl,U,O,V⟩:=P;exact⟨.inl ⟨.bool true,.bool true,[],rfl,λ_=>rfl,.bool true,Gv l _,λ_=>⟨List.Pairwise.nil,λ_ hm=>(nomatch hm)⟩⟩,U,O,V⟩
end Att
namespace L2
open PySem PySem.Spec PyProof.Rows
theorem uT:∀{vs:ar}{ns:ae},IntsAre vs ns->Vals (ns.map V.int) vs
 | _,_,.nil=>.nil
 | _,_,.cons n t h=>.cons ⟨t,rfl⟩<|uT h
abbrev M4 (H:Hp):Prop:=∀b,H b=none\/∃o xs,H b=some (.frz o<|.lst xs)
def Ka{P:ah}{w:af}{K:aq}{mg mb:Str->be}{CX:K_}{k:Nat}{fa a:aj}{x:Str}{sp:Sp}{s₁:aA}{vs:ar}{ns:ae}
  (KX:K.In s₁.heap) (hns:s₁.heap.Ns mainGlobals mg) (hb:s₁.heap.Ns builtinsNs mb) (hbb:∀x:Str,x ≠ "__name__" -> mb x=bootBuiltins x) (hlim:s₁.heap.NoLimit) (hg:s₁.gens=#[])
  (ha:s₁.heap.get? a=some { cls:=.type "list",data:=.seq vs.toArray }) (hi:IntsAre vs ns) (hl:ns.length<=sizeLine) (hr:Room k callerA)
  (F:∀base:ak,K.In base->base.Ns mainGlobals mg->FnOk P w K mg base CX k fa fd [x] sp) (hbind:∀(s:aA) (u:aa),BindsTo s fd ⟨[u],[]⟩ [(x,u)])
  (hsp:∀H:Hp,M4 H->kP K H a (ns.map V.int)->sp [.ref a] H (λv _=>v=.bl true) λ_ _ _=>False)
  (hCX:∀H e s',CX [] H s₁ (λ_ _ _=>False) e s'->False) :
  codeAny (model P w) callerA (.call (.ref fa) ⟨[.ref a],[]⟩) (λr s'=>r=.ok (.ret<|.bool true)/\OldK s₁.heap s'.heap/\s'.os=s₁.os/\AllBare s'.gens) s₁:=by
 have W:=uT hi;have B:=hi.length;have j:∀H:Hp,M4 H->kP K H a (ns.map V.int)->sH P w H s₁.heap->(∀b,H b≠none->b=a)->(H a≠none->K.lookup a=none) ->
   codeAny (model P w) callerA (.call (.ref fa) ⟨[.ref a],[]⟩) (λr s'=>r=.ok (.ret<|.bool true)/\OldK s₁.heap s'.heap/\s'.os=s₁.os/\AllBare s'.gens) s₁:=by
  intro H Y hS hok U hK;have f:∀{b:aj} {o:Obj},s₁.heap.get? b=some o->H b=none->(Ah s₁.heap H).get? b=some o:=λe n=>HY e n;have N:∀{b:aj} {o:Obj} {es:Array DictEntry} {J:Nat},s₁.heap.get? b=some o->o.data=.dict es J->H b=none:=λ{b o es J} e d=>by
   cases q:H b with
   | none=>rfl
   | some u=>
    have O:b=a:=U b (by rw[q];simp);subst O;rw[ha]at e;cases e;have Z:Data.seq vs.toArray _=Data.dict es J:=d
    cases Z
  have g:∀{b:aj} {m:Str->be},s₁.heap.Ns b m->(Ah s₁.heap H).Ns b m:=λ{b m} ⟨o,es,J,e,d,r⟩=>⟨o,es,J,f e<|N e d,d,r⟩;have C:K.In (Ah s₁.heap H):=λb o e=>f (KX b o e) (by
   cases q:H b with
   | none=>rfl
   | some u=>
    have O:b=a:=U b (by rw[q];simp);subst O;rw[hK<|by rw[q];simp]at e;cases e)
  have hM:Mod K mg (Ah s₁.heap H):=⟨C,g hns,⟨mb,g hb,hbb⟩,let⟨mc,h1,h2⟩:=hlim;⟨mc,g h1,h2⟩⟩;have e0:Env0 P w K mg (Ah s₁.heap H) callerA [] s₁ H:=⟨rfl,hM,λb o e=>MC e,Nat.le_of_eq<|GL _ _,trivial,λb hb=>absurd (show b∈([]:ba)from hb)<|by simp,hok,.of_eq hg⟩;refine eU ((F _ C<|g hns).run callerA [] s₁ H ⟨[.ref a],[]⟩ [.ref a] [.ref a] _ _ hr e0 (hbind s₁<|.ref a) (.cons rfl .nil)<|hsp H Y hS) λr s' h=>?_
  cases r with
  | error e=>exact(hCX H e s' h).elim
  | ok fl=>
   cases fl with
   | next=>exact False.elim h
   | brk=>exact False.elim h
   | cont=>exact False.elim h
   | ret u=>
    obtain⟨v,H',os,bare,un,G,r',q⟩:=h;have q':v=.bl true:=q;subst q';obtain rfl:u=Value.bool true:=r';refine⟨rfl,OldK.of_keep λb o e=>?_,os,bare⟩
    cases q:H b with
    | none=>exact un.keep b o e q (by intro z;exact absurd (show b∈([]:ba)from z)<|by simp) (by simp)
    | some u=>
     rcases Y b with z|⟨ob,xs,z⟩
     ·rw[q]at z;cases z
     ·have z2:=un.frzs b ob _ z;obtain⟨e1,_⟩:=hok b _ z;obtain⟨e2,_⟩:=G b _ z2;rw[e]at e1;cases e1;exact e2
 cases L:K.lookup a with
 | some o=>
  have e:=KX a o L;rw[ha]at e
  cases e
  refine j (λ_=>none) (λ_=>.inl rfl) (.inr ⟨_,vs.toArray,_,L,rfl,rfl,rfl,by rw[aP,B];exact hl,by simpa using W⟩) (λb u z=>by have t:(none:Option HO)=some u:=z;cases t) (λb z=>absurd rfl z) λz=>absurd rfl z
 | none=>
  refine j (λb=>if b=a then some (.frz { cls:=.type "list",data:=.seq vs.toArray } (.lst<|ns.map V.int))else none) (λb=>?_) (.inl<|.inr ⟨{ cls:=.type "list",data:=.seq vs.toArray },bf rfl⟩) (λb u z=>?_) (λb z=>?_) λ_=>L
  ·by_cases hb:b=a
   ·exact .inr ⟨_,_,bf hb⟩
   ·exact .inl<|bu hb
  ·by_cases hb:b=a
   ·have t:=(bf hb).symm.trans z
    cases t
    subst hb;exact⟨ha,by rw[aH];exact hl,vs,_,W,ha⟩
   ·have t:=(bu hb).symm.trans z
    cases t
  ·by_cases hb:b=a
   ·exact hb
   ·exact absurd (bu hb) z
def M7{l:PySem.W.OpenLaw}{n k:Nat}{q:ah}{XP:(Str->be)->ak->Prop}{YP:af->ak->Prop}{d:DefRec}{K:Params->aq}{CX:af->K_}{sp:af->Sp}{x:Str}
  (hn:l.most=some n) (hn2:n<=sizeLine) (hdf:d.params.defaults=[]) (hr:Room k callerA)
  (hY:∀(w:af) (h:ak),YP w h->(K w.params).In h)
  (F:∀(w:af) (mg:Str->be) (fa:aj) (h:ak),(K w.params).In h->h.Ns mainGlobals mg->mg d.name=some (.ref fa) ->
   ∃fd:FuncData,(∀(s:aA) (u:aa),BindsTo s fd ⟨[u],[]⟩ [(x,u)]) /\
    ∀base:ak,(K w.params).In base->base.Ns mainGlobals mg->FnOk l.prog w (K w.params) mg base (CX w) k fa fd [x] (sp w))
  (hsp:∀(w:af) (H:Hp) (a:aj) (ns:ae),ns.length<=n->M4 H->kP (K w.params) H a (ns.map V.int)->sp w [.ref a] H (λv _=>v=.bl true) λ_ _ _=>False)
  (hCX:∀(w:af) (H:Hp) (s:aA) (e:aa) (s':aA),CX w [] H s (λ_ _ _=>False) e s'->False) :
  PySem.W.WalkO q loose XP YP l.row.toRowW d [] (λf vs=>PySem.call f vs):=by
 refine Att.Cf hn hdf λw J t mg Z fa o pm cd N a vs ns G Y ho hd L B z m j hg=>?_;have C:=hY w _ Y;obtain⟨fd,hb,P⟩:=F w mg fa _ C G.T.g B;exact Ka C G.T.g G.T.b G.T.builtins G.T.nolimit hg z m (bX j hn2) hr P hb (λH U O=>hsp w H a ns j U O) λH e s'=>hCX w H t e s'
abbrev r_ (s:aE):Arguments:=match s with
 | .FunctionDef _ a _ _ _ _ _ _ _ _=>a
 | _=>{ posonlyargs:=[],args:=[],vararg:=none,kwonlyargs:=[],kw_defaults:=[],kwarg:=none,defaults:=[]}
abbrev lN (s:aE):List aE:=match s with
 | .FunctionDef _ _ b _ _ _ _ _ _ _=>b
 | _=>[]
abbrev iU (s:aE):Scope:=match s with
 | .FunctionDef _ _ _ _ _ _ d _ _ _=>d
 | _=>{ kind:=.function,names:=[],isGenerator:=false,isCoroutine:=false }
meta abbrev qG:K_:=λ_ _ _ _ _ _=>False
meta abbrev E0:XK:=λ_ _ _=>False
def QO:Passes qG X E0:=λ_ _ _ _ _ _ _ h=>h.elim
structure Fun (K:aq)(x qual:Str)(st:aE)(f:aj)(fd:FuncData):Prop where
 ex:∃(oc:aa) (od:Option aj) (kV doc pm:aa) (an:Option aj) (cdv ct:aa) (osl:Array<|be),
  fd=PySem.W.fnOf x qual (r_ st) (lN st) (iU st) .none kV doc pm an cdv ct/\K.lookup f=some ⟨oc,od,.func fd,osl⟩/\PySem.W.codeIn K cdv qual=true
 kp:PySem.W.keepIn K (.ref f)=true
section
variable {P:ah}{w:af}{K:aq}{mg:Str->be}{base:ak}
def Fun.ok{x:Str}{st:aE}{f:aj}{N ps:am}{k:Nat}{sp:Sp}(F:Fun K x qual st f fd)(S:FnScope N ps<|iU st)(len:∀vs H Q E,sp vs H Q E->vs.length=ps.length)
  (hbody:∀(cdv:aa) (A:au) (outer:List Env) (s:aA) (H:Hp) (vs:List V) (Q:VK) (E:XK),Room k (A.deeper<|envOfC qual (iU st) s.heap.objs.size f cdv)->sp vs H Q E ->
   ∃t,yo (uP qG P w K mg base N qual (iU st) f cdv A outer s H E).Q0 (lN st) t/\t { nx:=λ_ H'=>Q .jC H',rt:=Q } (start N vs) H):FnOk P w K mg base qG (k+1) f fd ps sp:=by
 obtain⟨J,G,kV,m,L,C,cdv,ct,z,rfl,B,d⟩:=F.ex;refine Oo B d S len λA outer s H vs Q E j g=>?_;obtain⟨t,h,q⟩:=hbody cdv A outer s H vs Q E j g;exact⟨t,h.Q0,q⟩
def Fun.binds{x:Str}{st:aE}{f:aj}{ps:am}(F:Fun K x qual st f fd)
  (h:∀(kV doc pm:aa) (an:Option aj) (cdv ct:aa) (us:ar),us.length=ps.length->bindArgs (PySem.W.fnOf x qual (r_ st) (lN st) (iU st) .none kV doc pm an cdv ct) ⟨us,[]⟩=pure (ps.zip us)):Binds K fd ps []:=by
 obtain⟨j,k,kV,doc,pm,an,cdv,ct,g,rfl,m,d⟩:=F.ex;exact .all<|h kV doc pm an cdv ct
def Qx{x:Str}{st:aE}{f:aj}{kV pm ct:aa}(l:K.lookup f=some ⟨oc,od,.func<|PySem.W.fnOf x qual (r_ st) (lN st) (iU st) .none kV doc pm an cdv ct,osl⟩)
  (c:PySem.W.codeIn K cdv qual=true) (k:PySem.W.keepIn K (.ref f)=true):Fun K x qual st f (PySem.W.fnOf x qual (r_ st) (lN st) (iU st) .none kV doc pm an cdv ct):=⟨⟨oc,od,kV,doc,pm,an,cdv,ct,osl,rfl,l,c⟩,k⟩
end
set_option maxHeartbeats 4000000
abbrev LL (σ:St):bo->Option V
 | some j=>(σ[j]?).getD none
 | none=>none
abbrev qO (env:Env):List (Str×NameKind)->List (Str×aj)->List (Str×aj)
 | [],cs=>cs
 | (n,k)::r,cs=>qO env r (if k == .free then(n,(env.cells.lookup n).getD 0)::cs else cs)
def tU{scope:Scope}{env:Env}(h:∀y∈scope.names,y.2=.free->∃c,env.cells.lookup y.1=some c):closureFor scope env=pure (qO env scope.names []):=by
 have f:∀(l:List<|Str×NameKind) (cs:List<|Str×aj),(∀y∈l,y.2=.free->∃c,env.cells.lookup y.1=some c) ->
   (forIn l cs (λ(x:Str×NameKind) (r:List<|Str×aj)=>(match x with
    | (name,kind)=>if (kind == NameKind.free)=true then(do let c <- cellOf env name;pure (ForInStep.yield ((name,c)::r)))else pure (ForInStep.yield r):Sem<|ForInStep<|List<|Str×aj)))=(pure (qO env l cs):Sem<|List<|Str×aj):=by
  intro l
  induction l with
  | nil=>intro cs _;rfl
  | cons y r j=>
   intro cs d;obtain⟨n,k⟩:=y;rw[List.forIn_cons];by_cases m:k=.free
   ·subst m;obtain⟨c,hc⟩:=d (n,.free) a_ rfl;have e1:cellOf env n=pure c:=by
     unfold cellOf;rw[hc]
    dsimp[cY,fU,e1,pure_bind];rw[j _ λz g=>d z<|aN _ g];dsimp[qO,cY,fU,hc,eL]
   ·have hb:(k == NameKind.free)=false:=by simpa using m
    dsimp[hb,dS,eG,pure_bind];rw[j _ λz g=>d z<|aN _ g];dsimp[qO,hb,dS,eG]
 have:=f scope.names [] h;exact(b_ (λz=>z >>= λcs=>(pure cs:Sem<|List<|Str×aj)) this).trans (pure_bind _ _)
theorem xE:∀{l:List<|Str×NameKind}{x:Str}{k:NameKind},l.lookup x=some k->(x,k)∈l
 | [],_,_,h=>nomatch h
 | (n,k')::r,x,k,h=>by
  rw[dQ]at h
  cases hx:x == n with
  | true=>
   rw[hx]at h;have e:x=n:=by simpa using hx
   subst e
   cases h
   exact a_
  | false=>rw[hx]at h;exact aN _<|xE h
theorem zp{env:Env}{x:Str}:∀{l:List<|Str×NameKind}{cs:List<|Str×aj},(∀y∈l,y.2=.free->∃c,env.cells.lookup y.1=some c)->(qO env l cs).lookup x=some c->env.cells.lookup x=some c\/cs.lookup x=some c
 | [],cs,_,h=>.inr h
 | (n,k)::r,cs,hl,h=>by
  have h':=zp (l:=r) (λz f=>hl z<|aN _ f) h
  rcases h' with h'|h'
  ·exact .inl h'
  ·by_cases d:k=.free
   ·subst d;dsimp[cY,fU]at h';obtain⟨g,hc⟩:=hl (n,.free) a_ rfl;rw[hc,eL,dQ]at h'
    cases hx:x == n with
    | true=>
     rw[hx]at h';have e:x=n:=by simpa using hx
     subst e;left;rw[hc];exact h'
    | false=>rw[hx]at h';exact .inr h'
   ·have hb:(k == NameKind.free)=false:=by simpa using d
    dsimp[hb,dS,eG]at h';exact .inr h'
theorem yK{env:Env}{x:Str}:∀{l:List<|Str×NameKind}{cs:List<|Str×aj},(cs.lookup x).isSome=true->((qO env l cs).lookup x).isSome=true
 | [],cs,h=>h
 | (n,k)::r,cs,h=>by
  skip
  refine yK (l:=r) ?_;by_cases d:(k == NameKind.free)=true
  ·rw[bf d,dQ]
   cases hx:x == n with
   | true=>rfl
   | false=>exact h
  ·rw[bu d];exact h
theorem yi{env:Env}{x:Str}:∀{l:List<|Str×NameKind}{cs:List<|Str×aj},(x,NameKind.free)∈l->((qO env l cs).lookup x).isSome=true
 | [],_,h=>nomatch h
 | (n,k)::r,cs,h=>by
  rcases bh.mp h with e|h
  ·cases e
   skip
   refine yK (l:=r) ?_;rw[bf<|by rfl,dQ];simp
  ·exact yi (l:=r) h
theorem tN:∀(names:List<|Str×NameKind) (n:Nat) (acc:List<|Str×aj),cellsFrom n names acc=cellsFrom n names []++acc
 | [],_,_=>rfl
 | (x,k)::r,n,acc=>by
  unfold cellsFrom;split
  ·rw[tN r (n+1) ((x,n)::acc),tN r (n+1) [(x,n)],bZ];rfl
  ·exact tN r n acc
theorem Dq:∀(names:List<|Str×NameKind) (n:Nat) {x:Str}{c:aj},(x,c)∈cellsFrom n names []->(x,NameKind.cell)∈names
 | [],_,_,_,h=>nomatch h
 | (y,k)::r,n,x,c,h=>by
  unfold cellsFrom at h;split at h
  ·rename_i d;rw[tN]at h
   rcases bT.mp h with z|z
   ·exact aN _ (Dq r _ z)
   ·rw[aW]at z
    cases z
    have:k=.cell:=by simpa using d
    rw[this];exact a_
  ·exact aN _<|Dq r _ h
theorem uA{α:Type}{x:Str}:∀{l m:List<|Str×α},(l++m).lookup x=match l.lookup x with|some c=>some c|none=>m.lookup x
 | [],_=>rfl
 | (y,c)::l,m=>by
  rw[List.cons_append,dQ,dQ]
  cases x == y with
  | true=>rfl
  | false=>exact uA
def Mn{n:Nat}{acc:List<|Str×aj}{x:Str}(h:(cellsFrom n names acc).lookup x=some c):(cellsFrom n names []).lookup x=some c\/((cellsFrom n names []).lookup x=none/\acc.lookup x=some c):=by
 rw[tN,uA]at h
 cases e:(cellsFrom n names []).lookup x with
 | some d=>rw[e]at h;exact .inl h
 | none=>rw[e]at h;exact .inr ⟨rfl,h⟩
def Qv{n:Nat}{acc:List<|Str×aj}{x:Str}(h:(x,NameKind.cell)∉names):(cellsFrom n names acc).lookup x=acc.lookup x:=by
 rw[tN,uA]
 cases e:(cellsFrom n names []).lookup x with
 | some d=>exact absurd (Dq names n<|cG e) h
 | none=>rfl
def Au{A:au}{E:aa->aA->Prop}{s:aA}{scope:Scope}{globals:aj}{cl:List<|Str×aj}{env:Env}{Q:Env->aA->Prop}
  (hQ:∀h':ak,h'.Ns s.heap.objs.size (λ_=>none)->(∀b o,s.heap.get? b=some o->h'.get? b=some o)->CellsOk h' (s.heap.objs.size+1) (cellsFrom (s.heap.objs.size+1) scope.names []) ->
   Q (newEnv scope s.heap.objs.size globals (cellsFrom (s.heap.objs.size+1) scope.names cl) qual none .none (some env) builtinsNs) { s with heap:=h',toks:=s.toks+([]:List<|Str×aa).length }) :
  wpAny M A (newFunctionEnv scope globals cl [] qual none .none<|some env) Q E s:=by
 dsimp[newFunctionEnv,isSome_some,fU];refine aI<|wpAny_alloc ?_;refine aI (wpAny_layCells _ (λname kind cells=>by cases d:kind == NameKind.cell<;>simp[d]) _ _ _ _ ?_);have ok:=cellsFrom_ok scope.names (s.heap.push { cls:=.type "dict",data:=.dict #[]}) (s.heap.objs.size+1) [] ⟨λ_ _ hm=>(nomatch hm),List.Pairwise.nil⟩ (by rw[dH];exact aL _);rw[dH]at ok;rw[show({ s with heap:=s.heap.push { cls:=.type "dict",data:=.dict #[]}}:aA).heap.objs.size=s.heap.objs.size+1 from dH ..];rw[List.forIn_nil];refine aI<|aM<|aM ?_;exact hQ _ ((Heap.Ns.new s.heap<|.type "dict").keeps<|pushCells_keeps _ _) (λb o e=>pushCells_keeps _ _ b o<|aK _ e) ok
abbrev jk (X:Cx)(scope:Scope)(N:am)(C:aj)(s₀:aA)(H₀:Hp)(ex:ba):Cx where
 prog:=X.prog
 w:=X.w
 K:=X.K
 mg:=X.mg
 base:=X.base
 A:=X.A
 N:=N
 s₀:=s₀
 H₀:=H₀
 env:=compEnvC scope (cellsFrom (C+1) scope.names<|qO X.env scope.names []) C X.env
 outer:=X.stack
 stack:=X.stack
 ex:=ex
 fn:=λx=>scope.names.lookup x == some .cell
 calm:=X.calm
 pn:=[]
 xe:=λ_ _=>False
structure CpScope (X:Cx)(scope:Scope)(N:am)(cap:List (bo)):Prop where
 kind:scope.kind=.function
 nocf:∀x,(x,NameKind.free)∈scope.names->(x,NameKind.cell)∉scope.names
 nm:∀y∈scope.names,y.2=.local->scope.names.lookup y.1=some .local
 fr:∀y∈scope.names,y.2=.free->X.env.kindOf y.1=some .cell\/X.env.kindOf y.1=some .free
 rl:∀y,((relabel scope X.env).names.lookup y=some .cell\/(relabel scope X.env).names.lookup y=some .free)->(y,NameKind.free)∈scope.names\/scope.names.lookup y=some .cell
 len:cap.length=N.length
 nolf:∀x,(x,NameKind.free)∈scope.names->scope.names.lookup x≠some .local
 cp:∀(i j:Nat) (x:Str),N[i]?=some x->cap[i]?=some (some j)->X.N[j]?=some x/\(x,NameKind.free)∈scope.names
def CW{scope:Scope}{N:am}{cap:List<|bo}{H:Hp}{s:aA}{fp:ba}{h₁:ak}{m:Str->be}{tk:Nat}(S:CpScope X scope N cap)(I:Inv X pins σ H s)
  (hf:∀b∈fp,oS X pins H b) (ho:∀b∈fp,∃o,s.heap.get? b=some o) (hn:h₁.Ns s.heap.objs.size m) (hC:CellsOk h₁ (s.heap.objs.size+1)<|cellsFrom (s.heap.objs.size+1) scope.names []) (hk:∀b o,s.heap.get? b=some o->h₁.get? b=some o) :
  Inv (jk X scope N s.heap.objs.size s H fp) [] (cap.map<|LL σ) H { s with heap:=h₁,toks:=tk }:=by
 kd_p;have W:∀x c,(qO X.env scope.names []).lookup x=some c->X.env.cells.lookup x=some c:=λx c e=>by
  rcases zp hfree e with z|z
  ·exact z
  ·cases z
 have f:∀x c,(cellsFrom (s.heap.objs.size+1) scope.names<|qO X.env scope.names []).lookup x=some c->((x,c)∈cellsFrom (s.heap.objs.size+1) scope.names []/\h₁.IsCell c none/\s.heap.objs.size+1<=c)\/X.env.cells.lookup x=some c:=λx c e=>by
  rcases Mn e with z|z
  ·exact .inl ⟨cG z,hC.empty x c<|cG z⟩
  ·exact .inr<|W x c z.2
 have old:∀x c,X.env.cells.lookup x=some c->c<s.heap.objs.size:=λx c e=>by
  obtain⟨v,z⟩:=I.cell x c e;exact z.lt
 have lt:∀b o,s.heap.get? b=some o->b≠s.heap.objs.size:=λb o e=>br<|aS e;refine⟨⟨I.ok.mod,?_,I.ok.glob,I.ok.blt,aL _,?_,?_,?_,I.ok.hd,I.ok.frames,.inl rfl,?_,I.bs,bX I.ok.bsz I.sz,?_,?_,I.stack,I.wW⟩,rfl,I.bare,Un.kept hk,?_,?_,I.hok.fresh<|aL _,?_,?_,I.hok.kept hk,?_⟩
 ·exact S.kind
 ·intro x y c e1 e2
  rcases f x c e1 with a|a
  ·rcases f y c e2 with b|b
   ·exact name_of_addr hC.apart a.1 b.1
   ·exact absurd (old y c b)<|not_lt.mpr<|c8 a.2.2
  ·rcases f y c e2 with b|b
   ·exact absurd (old x c a) (not_lt.mpr<|c8 b.2.2)
   ·exact I.ok.inj x y c a b
 ·intro x e;refine eo.mp (dN _ _ _ ?_)
  rcases S.rl x e with hm|hm
  ·exact .inr (yi (env:=X.env) (cs:=[]) hm)
  ·exact .inl hm
 ·intro x c e C;have e:scope.names.lookup x=some .cell:=by
   have e:(scope.names.lookup x == some .cell)=true:=e;simpa using e
  obtain⟨d,hd⟩:=eo.mp<|dN scope.names (s.heap.objs.size+1) []<|.inl e;have C:(cellsFrom (s.heap.objs.size+1) scope.names<|qO X.env scope.names []).lookup x=some c:=C;rw[tN,uA,hd]at C
  cases C
  exact c8 (hC.empty x c<|cG hd).2
 ·intro b hb;obtain⟨o,e⟩:=ho b hb;refine⟨lt b o e,λx c e2=>?_⟩
  rcases f x c e2 with z|z
  ·exact gK (Nat.lt_trans (aS e) z.2.2)
  ·exact(hf b hb).2.2.2.2.1 x c z
 ·intro b o e hb;obtain⟨_,_,_,Y,_⟩:=hf b hb
  rcases Y with z|z
  ·exact I.ok.noex b o e z
  ·exact absurd (bH (aS (I.ok.bs b o e).1) z)<|cK _
 ·intro b hb hz;obtain⟨_,h1,K,_⟩:=hf b hb
  rcases bh.mp (I.u7 b hz)with z|z
  ·exact h1 z
  ·exact K z
 ·refine⟨m,hn,λi x v e1 e2 e3=>?_⟩;rw[aQ]at e2
  cases hc:cap[i]? with
  | none=>rw[hc]at e2;cases e2
  | some oj=>
   rw[hc]at e2
   cases oj with
   | none=>cases e2
   | some j=>
    have q:(σ[j]?).getD none=some v:=aR e2;obtain⟨hj,hm⟩:=S.cp i j x e1 hc;obtain⟨m0,Z,L⟩:=I.loc;have V:σ[j]?=some (some v):=by
     cases h:σ[j]? with
     | none=>rw[h]at q;cases q
     | some z=>rw[h,eL]at q;rw[q]
    have J:=S.fr (x,.free) hm rfl;have hv:Rg X.env.scope x:=.inr J;obtain⟨u,ru,lo⟩:=L j x v hj V hv;refine⟨u,ru,?_⟩
    rcases lo with⟨lo,_⟩|⟨_,c,C,ic⟩
    ·rcases J with z|z<;>(rw[z]at lo;cases lo)
    ·have K:=yi (env:=X.env) (cs:=[]) hm;obtain⟨O,B⟩:=eo.mp K;have:O=c:=aR<|(W x O B).symm.trans C;subst this;refine .inr ⟨?_,O,(Qv<|S.nocf x hm).trans B,?_⟩
     ·rcases e3 with z|z|z
      ·exfalso;have:(relabel scope X.env).names.lookup x=some .local:=z;have G:scope.names.lookup x=some .local:=by
        have F:∃k,(x,k)∈(relabel scope X.env).names/\k=.local:=by
         clear B K;have:=xE this;exact⟨_,this,rfl⟩
        obtain⟨k,U,rfl⟩:=F;obtain⟨⟨n',k'⟩,P,g⟩:=bA.mp U;dsimp only at g;split at g
        ·cases g
        ·cases g
         exact S.nm (x,.local) P rfl
       exact False.elim<|S.nolf x hm G
      ·exact .inl z
      ·exact .inr z
     ·obtain⟨o,t,hd⟩:=ic;exact⟨o,hk _ _ t,hd⟩
 ·intro x c e
  rcases f x c e with z|z
  ·exact⟨_,z.2.1⟩
  ·obtain⟨v,o,t,hd⟩:=I.cell x c z;exact⟨v,o,hk _ _ t,hd⟩
 ·intro x c e
  rcases f x c e with z|z
  ·exact I.hok.fresh (c8 z.2.2)
  ·exact I.freeC x c z
 ·intro p hp
  cases hp
 ·rw[aH,S.len];rfl
abbrev CQ (X:Cx)(ifs:List aC)(t:TT):Prop:=
 ∀(pins:bt) (s:aA) (σ:St) (H:Hp) (Q:Bool->Hp->Prop),Inv X pins σ H s->t σ H Q ->
  wpAny (model X.prog X.w) X.A (forIn ifs true λc r=>if r=true then do let ok <- isTrue c X.env (eval c X.env);pure (ForInStep.yield ok)else pure (ForInStep.yield r)) (TP X pins σ Q) X.xe s
abbrev Ti:TT:=λ_ H Q=>Q true H
def MO:CQ X [] Ti:=λ_ _ _ H _ I h=>wpAny_tests_nil ⟨H,I,h⟩
def MX{c:aC}{t:TT}(h:PT X c t):CQ X [c] t:=λpins s σ H Q I q=>wpAny_tests_one<|h pins s σ H Q I q
abbrev Qd (cap:List<|bo)(g:TG)(tc:TT)(te:TE)(σ:St)(Q:VK)(J:It)(H1:Hp):Prop:=∀D,H1 D=none ->
 ∃W:Nat->Nat->St->Hp->Prop,(∃m,W 0 m (cap.map<|LL σ)<|upd H1 D<|.lst [])/\∀i m f H',W i m f H' ->
  (J.stop i H'/\Q (.ref D) H')\/(J.go i H'/\∀x H2,J.yld i H' x H2->g x f H2 λd k=>tc d k λb j=>
   if b=true then te d j λy H5=>∃ys,H5 D=some (.lst ys)/\ys.length<sizeLine/\∃m',m'<m/\W (i+1) m' d (upd H5 D<|.lst<|ys++[y])
   else ∃m',m'<m/\W (i+1) m' d j)
abbrev Q4 (cap:List<|bo)(wi:TI)(g:TG)(tc:TT)(te:TE):TE:=λσ H Q=>wi σ H<|Qd cap g tc te σ Q
def uv{α:Type}{t:Sem α}{Q Q':α->aA->Prop}{A:au}{E:aa->aA->Prop}(h:wpAny M A t Q (λ_ _=>False) s)(hQ:∀a s,Q a s->Q' a s):wpAny M A t Q' E s:=
 cE h hQ λ_ _ f=>f.elim
structure TurnG (ok:Cx->Prop)(P:ah)(w:af)(K:aq)(tg:aC)(J:It)(fp:ba)(it:aj)(tn:Nat->ak->Prop):Prop where
 obj:∀i h,tn i h->∀b∈fp,∃o,h.get? b=some o/\∀v,o.data≠.cell v
 keep:∀i h h',tn i h->(∀b∈fp,∀o,h.get? b=some o->h'.get? b=some o)->tn i h'
 item:∀(X:Cx),X.prog=P->X.w=w->X.K=K->ok X->∀(i:Nat) (pins:bt) (s:aA) (σ:St) (H:Hp) (E:aa->aA->Prop),Inv X pins σ H s->(∀b∈fp,oS X pins H b)->tn i s.heap->J.go i H ->
  wpAny (model P w) X.A (pyNext<|.ref it) (λr s1=>∃u,r=some u /\
   wpAny (model P w) X.A (letOwnedTupleGo tg (.ref it) u) (λ_ s2=>∃x H',Inv X pins σ H' s2/\RelV x u/\J.yld i H x H'/\tn (i+1) s2.heap/\∀b∈fp,H' b=none) E s1) E s
 done:∀(X:Cx),X.prog=P->X.w=w->X.K=K->ok X->∀(i:Nat) (pins:bt) (s:aA) (σ:St) (H:Hp) (E:aa->aA->Prop),Inv X pins σ H s->(∀b∈fp,oS X pins H b)->tn i s.heap->J.stop i H ->
  wpAny (model P w) X.A (pyNext<|.ref it) (λr s1=>r=none/\Inv X pins σ H s1) E s
 self:∀(A:au) (i:Nat) (s:aA) (Q:aa->aA->Prop) (E:aa->aA->Prop),tn i s.heap->Q (.ref it) s->wpAny (model P w) A (pyIter<|.ref it) Q E s
abbrev TL (ok:Cx->Prop)(X:Cx)(pins:bt)(σ:St)(tg:aC)(R:It->Hp->Prop)(itv:aa)(s2:aA):Prop:=
 ∃(it:aj) (fp:ba) (d:Nat->ak->Prop) (J:It) (H':Hp),itv=.ref it/\Inv X pins σ H' s2/\TurnG ok X.prog X.w X.K tg J fp it d/\d 0 s2.heap/\(∀b∈fp,oS X pins H' b)/\R J H'
abbrev Sf (ok:Cx->Prop)(X:Cx)(tg iter:aC)(wi:TI):Prop:=
 ∀(pins:bt) (s:aA) (σ:St) (H:Hp) (R:It->Hp->Prop),Inv X pins σ H s->wi σ H R ->
  wpAny (model X.prog X.w) X.A (eval iter X.env) (λv d=>wpAny (model X.prog X.w) X.A (pyIter v) (TL ok X pins σ tg R) X.xe d) X.xe s
def PI.g{iter:aC}{wi:TI}(h:PI X tg iter wi):Sf (λY=>Y.calm=true) X tg iter wi:=λpins s σ H R I q=>
 ki (h pins s σ H R I q) λv m h1=>ki h1 λj k ⟨it,fp,f,J,H',e,d,T,a,b,c⟩=>⟨it,fp,f,J,H',e,d,⟨T.obj,T.keep,T.item,T.done,T.self⟩,a,b,c⟩
def Fv{ok:Cx->Prop}{X:Cx}{use:Option<|aa->Sem Unit}{Q':aa->aA->Prop}{iter:aC}{N:am}{wi:TI}{g:TG}{tc:TT}{te:TE}(S:CpScope X scope N cap)(hok:∀C s₀ H₀ ex,(∀a o u,X.H₀ a=some (.frz o u)->H₀ a=some (.frz o u))->ok (jk X scope N C s₀ H₀ ex))(hi:Sf ok X tg iter wi)
  (hg:∀C s₀ H₀ ex,PG (jk X scope N C s₀ H₀ ex) tg g) (ht:∀C s₀ H₀ ex,CQ (jk X scope N C s₀ H₀ ex) ifs tc) (he:∀C s₀ H₀ ex,PE (jk X scope N C s₀ H₀ ex) elt te)
  (hs:∀x,foldedSetIterable iter X.env x=pure x:=by intro _;rfl):∀(pins:bt) (s:aA) (σ:St) (H:Hp) (Q:VK),Inv X pins σ H s->Q4 cap wi g tc te σ H Q ->
  (∀(s6:aA) (C D:aj) (H5:Hp) (m:Str->be),s6.heap.Ns C m->oS X pins H5 C->(∀h',Heap.SameBut C s6.heap h'->Inv X pins σ H5 { s6 with heap:=h' })->Q (.ref D) H5->∀v,compPost (model X.prog X.w) X.A X.xe use Q' (.ref D) C (.ok v) s6) ->
  wpAny (model X.prog X.w) X.A (comprehension (.ListComp elt [⟨tg,iter,ifs,0⟩] scope pos) scope X.env (firstIterPos [⟨tg,iter,ifs,0⟩] pos) (newList []) (firstAsync [⟨tg,iter,ifs,0⟩]) (firstIter [⟨tg,iter,ifs,0⟩] X.env) use) Q' X.xe s:=by
 intro pins s σ H Q I h V;kd_p;refine fF (use:=use) rfl hs (tU hfree) S.kind S.nm<|ki (hi pins s σ H _ I h) λxv s1 h1=>ki h1 λitv f h2=>?_;obtain⟨it,fp,tn,J,H2,rfl,I2,T,st2,f2,h2⟩:=h2;refine bV<|Au λK j old k=>?_;obtain⟨W,⟨m0,w0⟩,U⟩:=h2 f.heap.objs.size I2.fresh;dsimp only at j old k ⊢;have I3:Inv X pins σ (upd H2 f.heap.objs.size<|.lst []) { f with heap:=f.heap.push {}}:=I2.Lq (t':=f.toks) (its:=[]) .nil<|cj _;have Z:∀b∈fp,∃o,f.heap.get? b=some o:=λb hb=>by
  obtain⟨o,e,_⟩:=T.obj 0 _ st2 b hb;exact⟨o,e⟩
 have neD:∀b∈fp,b≠f.heap.objs.size:=λb hb=>by
  obtain⟨o,e⟩:=Z b hb;exact br<|aS e
 have f3:∀b∈fp,oS X pins (upd H2 f.heap.objs.size<|.lst []) b:=λb hb=>⟨by rw[iS<|neD b hb];exact(f2 b hb).1,(f2 b hb).2⟩;have hDC:f.heap.objs.size≠(f.heap.push {}).objs.size:=by rw[dH];exact br (bG _)
 have I4:=CW (tk:=f.toks+([]:List<|Str×aa).length) (fp:=fp) S I3 f3 (λb hb=>by
  obtain⟨o,e⟩:=Z b hb;exact⟨o,aK _ e⟩) j k old
 have P:tn 0 K:=T.keep _ _ _ st2 λb hb o e=>old b o<|aK _ e;have hc:=hok (f.heap.push {}).objs.size { f with heap:=f.heap.push {}} (upd H2 f.heap.objs.size<|.lst []) fp λa o u e=>by
  have z:=I2.base.frzs a o u e;rw[iS λq=>by rw[q,I2.fresh]at z;cases z];exact z
 have B:∀{H':Hp},(∀b∈fp,H' b=none)->∀b∈fp,oS (jk X scope N (f.heap.push {}).objs.size { f with heap:=f.heap.push {}} (upd H2 f.heap.objs.size<|.lst []) fp) [] H' b:=λhn b hb=>by
  have ok:=I4.ok;cb_eq
 have G:∀s4:aA,s4={ f with heap:=K,toks:=f.toks+([]:List<|Str×aa).length } ->
   codeAny (model X.prog X.w) X.A (.compLoop (.ListComp elt [⟨tg,iter,ifs,0⟩] scope pos) 0 (.ref it) (.ref f.heap.objs.size)<|compEnvC scope (cellsFrom ((f.heap.push {}).objs.size+1) scope.names<|qO X.env scope.names []) (f.heap.push {}).objs.size X.env)
    (compPost (model X.prog X.w) X.A X.xe use Q' (.ref f.heap.objs.size) (f.heap.push {}).objs.size) s4:=by
  rintro s4 rfl;refine gM rfl (λn s'=>∃i F H',Inv (jk X scope N (f.heap.push {}).objs.size { f with heap:=f.heap.push {}} (upd H2 f.heap.objs.size<|.lst []) fp) [] F H' s'/\tn i s'.heap/\(∀b∈fp,H' b=none)/\W i n F H') (λn s5 hI=>?_) m0 ⟨0,_,_,I4,P,λb hb=>(f3 b hb).1,w0⟩;obtain⟨i,σ5,H5,I5,st5,O,w5⟩:=hI;show wpAny _ X.A ((compTurn (.ListComp elt [⟨tg,iter,ifs,0⟩] scope pos) 0 (.ref it) (.ref f.heap.objs.size)<|compEnvC scope (cellsFrom ((f.heap.push {}).objs.size+1) scope.names<|qO X.env scope.names []) (f.heap.push {}).objs.size X.env).onRaise λx=>do noteFrame x _;theTreesLotGoes x) _ _ s5;refine h_ ?_;rw[compTurn_list];refine aI (cz<|aI ?_)
  rcases U i n σ5 H5 w5 with⟨Y,q⟩|⟨go,step⟩
  ·refine ki (T.done (jk X scope N (f.heap.push {}).objs.size { f with heap:=f.heap.push {}} (upd H2 f.heap.objs.size<|.lst []) fp) rfl rfl rfl hc i [] s5 σ5 H5 _ I5 (B O) st5 Y) λr s6 h9=>?_;obtain⟨hr,I6⟩:=h9;subst hr;obtain⟨m6,hn6,_⟩:=I6.loc;refine aM<|V s6 _ _ H5 m6 hn6 (I3.yk (aL _) I6.free) (λh' sb=>?_) q _;have u6:=I6.base;have nC:∀b o,(f.heap.push {}).get? b=some o->b≠(f.heap.push {}).objs.size:=λb o e=>br<|aS e;kj_on
   ·exact sb.extBut b o (nC b o e) (u6.keep b o e n hb hx)
   ·obtain⟨sl,z⟩:=u6.slot b o e n hb hx;exact⟨sl,sb.extBut b _ (nC b o e) z⟩
   ·exact u6.free b o e n hx
   ·obtain⟨o',z⟩:=u6.there b o e hx;exact⟨o',sb.extBut b _ (nC b o e) z⟩
   ·intro b o e;have hb:∀c v,H5 c=some v->c≠(f.heap.push {}).objs.size:=λc v e z=>by
     rw[z]at e;have:=I6.free;rw[show H5 (f.heap.push {}).objs.size=none from this]at e
     cases e
    refine(I6.hok b o e).stay (λc v hc q=>sb.extBut c v ?_ q) (λ_ q=>q) λ_ _ q=>q
    rcases hc with z|z
    ·rw[z];exact hb b o e
    ·exact hb c _ z
   ·intro b hb;obtain⟨_,z1,_,z3,z4,z5⟩:=f3 b hb;exact⟨z3,z1,z4,z5⟩
  ·refine ki (T.item (jk X scope N (f.heap.push {}).objs.size { f with heap:=f.heap.push {}} (upd H2 f.heap.objs.size<|.lst []) fp) rfl rfl rfl hc i [] s5 σ5 H5 _ I5 (B O) st5 go) λr s6 h9=>?_;obtain⟨u,hr,h6⟩:=h9;subst hr;mg_lt;have I7':=I7.pinned (B fr7)<|T.obj _ _ st7;refine aI<|uv (hg _ _ _ fp _ s7 σ5 H7 x u _ I7' r7<|step x H7 y7) λ_ s8 ⟨σ8,H8,I8,q8⟩=>?_;refine aI<|uv (ht _ _ _ fp _ s8 σ8 H8 _ I8 q8) λok s9 ⟨H9,I9,q9⟩=>?_;have again:∀{t:aA} {H10:Hp},Inv (jk X scope N (f.heap.push {}).objs.size { f with heap:=f.heap.push {}} (upd H2 f.heap.objs.size<|.lst []) fp) ([]++qv fp s7.heap) σ8 H10 t->(∃m',m'<n/\W (i+1) m' σ8 H10) ->
     ∃m,m<n/\∃i F H',Inv (jk X scope N (f.heap.push {}).objs.size { f with heap:=f.heap.push {}} (upd H2 f.heap.objs.size<|.lst []) fp) [] F H' t/\tn i t.heap/\(∀b∈fp,H' b=none)/\W i m F H':=λ{t H10} I10 h9=>by
    obtain⟨m',hm,w10⟩:=h9;kpc_g;obtain⟨o,e,d⟩:=T.obj _ _ st7 b hb;exact(I10.pin (b,o)<|aU _<|aU _<|jK hb e).2.1
   cases ok with
   | false=>
    rw[bu bz]at q9;exact aM ⟨rfl,again I9 q9⟩
   | true=>
    rw[bf rfl]at q9;refine aI<|aI<|uv (he _ _ _ fp _ s9 σ8 H9 _ I9 q9) λy t ⟨L,H10,I10,r10,ys,hD,hz,w10⟩=>?_;refine aI<|uv (u_ _ t σ8 H10 (.ref f.heap.objs.size) [L] _ [y] (λ_ H'=>H'=upd H10 f.heap.objs.size (.lst<|ys++[L])) I10 rfl (.cons r10 .nil) ⟨_,ys,L,rfl,rfl,hD,hz,rfl⟩) λ_ s11 ⟨_,H11,I11,_,e11⟩=>?_;subst e11;exact aM<|aM ⟨rfl,again I11 w10⟩
 exact codeAny_compStart_list (G _ rfl)<|T.self _ 0 _ _ _ P<|G _ rfl
def JM{ok:Cx->Prop}{X:Cx}{iter:aC}{N:am}{wi:TI}{g:TG}{tc:TT}{te:TE}(S:CpScope X scope N cap)(hok:∀C s₀ H₀ ex,(∀a o u,X.H₀ a=some (.frz o u)->H₀ a=some (.frz o u))->ok (jk X scope N C s₀ H₀ ex))(hi:Sf ok X tg iter wi)
  (hg:∀C s₀ H₀ ex,PG (jk X scope N C s₀ H₀ ex) tg g) (ht:∀C s₀ H₀ ex,CQ (jk X scope N C s₀ H₀ ex) ifs tc) (he:∀C s₀ H₀ ex,PE (jk X scope N C s₀ H₀ ex) elt te)
  (hs:∀x,foldedSetIterable iter X.env x=pure x:=by intro _;rfl):PE X (.ListComp elt [⟨tg,iter,ifs,0⟩] scope pos) (Q4 cap wi g tc te):=by
 fin2;rw[eval_ListComp];exact Fv (use:=none) (Q':=EP X pins σ Q) S hok hi hg ht he hs pins s σ H Q I h λk C D H5 m hn j d q v=>⟨m,hn,λh' f=>⟨.ref D,H5,d h' f,rfl,q⟩⟩
def QK{X:Cx}{iter:aC}{N:am}{wi:TI}{g:TG}{tc:TT}{te:TE}(hc:X.calm=true)(S:CpScope X scope N cap)(hi:PI X tg iter wi)
  (hg:∀C s₀ H₀ ex,PG (jk X scope N C s₀ H₀ ex) tg g) (ht:∀C s₀ H₀ ex,CQ (jk X scope N C s₀ H₀ ex) ifs tc) (he:∀C s₀ H₀ ex,PE (jk X scope N C s₀ H₀ ex) elt te)
  (hs:∀x,foldedSetIterable iter X.env x=pure x:=by intro _;rfl):PE X (.ListComp elt [⟨tg,iter,ifs,0⟩] scope pos) (Q4 cap wi g tc te):=
 JM S (λ_ _ _ _ _=>hc) hi.g hg ht he hs
section
variable {X:Cx}
def K3{bs:List Bool}:∀{us:ar},Vals (bs.map V.bl) us->LSm.BoolsAre us bs:=by
 induction bs with
 | nil=>intro us r;cases r;exact .nil
 | cons b bs d=>
  intro us r
  cases r with
  | cons h t=>
   have e:_=Value.bool b:=h;subst e;exact .cons b<|d t
def GJ(hc:X.calm=true):jH X (.builtin "all") (λxs H Q=>∃(p:aj) (bs:List Bool),xs=[.ref p]/\kP X.K H p (bs.map V.bl)/\Q (.bl<|bs.all id) H):=by
 gp_on;obtain⟨p,bs,rfl,t,q⟩:=h;kln_w
 cases rx
 obtain⟨d,z,m,G⟩:=I.list t;have hb:=K3 z;have g:=m.isList;have f:p<s.heap.objs.size:=by obtain⟨_,e,_⟩:=g;exact aS e
 refine call_all_walk<|fR g ?_;refine⟨s.heap.objs.size,[s.heap.objs.size,p],[s.heap.objs.size],d.toArray.size,_,_,λi=>(bs[i]?).getD true,rfl,Walks.list (A:=X.A.in1) (I.ok.hd hc) _ p (br f) d.toArray,
  ⟨⟨_,bC _ rfl,rfl,rfl⟩,g.push _⟩,λi v s' B C hP j=>?_,λh' F k=>?_⟩
 ·obtain⟨b,e,rfl⟩:=hb.get i v (by simpa using hP);dsimp[e,eL]at j;exact d7 j
 ·have e:((List.range d.toArray.size).all λi=>(bs[i]?).getD true)=bs.all id:=by
   rw[aP,hb.length];exact LSm.range_all bs
  rw[e];exact⟨.bl _,H,I.kept<|LSm.kept_iter k,rfl,q⟩
def As:jH X (.builtin "sorted") (λxs H Q=>∃(p:aj) (ns:ae),xs=[.ref p]/\(kP X.K H p (ns.map V.int)\/m8 X.K H p (ns.map V.int))/\ns.length<64 /\
  ∀l (ns':ae),H l=none->ns'.Perm ns->ns'.Pairwise (·<=·)->Q (.ref l) (upd H l<|.lst<|ns'.map V.int)):=by
 gp_on;obtain⟨p,ns,rfl,t,U,q⟩:=h;kln_w
 cases rx
 have J:∀(d:ar) (T:String) (o:Obj) (n:Nat),(T = "list" \/ T = "tuple")->s.heap.get? p=some o->o.cls=.type T->o.data=.seq d.toArray n->Vals (ns.map V.int) d ->
   wpAny (model X.prog X.w) X.A (call (.builtin "sorted") [.ref p]) (EP X pins σ Q) X.xe s:=by
  intro d T o n N z f hd j;have Y:=intsAre_of j;have k:d.length=ns.length:=by have:=j.length;rw[aH]at this;exact this.symm
  refine Calls.call_function_entry kind_sorted plain_sorted entry_sorted (args_sorted1 _) ?_;unfold Builtin.«sorted»;refine aI (m:=checkCount "sorted" 1 1 _)<|aM ?_;refine aI (wpAny_collect_seq p N z f hd (λh' P=>?_)<|by rw[aP,k,cO];lia);refine aI<|wpAny_newList ?_;have g:(h'.push<|seqObj "list" d.toArray 0).get? h'.objs.size=some (seqObj "list" d.toArray 0):=bC _ rfl
  skip
  refine aI<|cL<|gp slot_list_sort ⟨_,g,rfl⟩ entry_list_sort (list_sort_tree g Y () λout ns' L G a3=>⟨_,rfl,?_⟩)<|args_list_sort _;obtain⟨e,O⟩:=sortedHeap_at (out:=out) g;have F:ns'.length=ns.length:=G.length_eq;have I1:Inv X pins σ H { s with heap:=h' }:=I.kept (t':=s.toks) P;have old:∀b ob,h'.get? b=some ob->(sortedHeap (h'.push<|seqObj "list" d.toArray 0) h'.objs.size d out).get? b=some ob:=λb ob B=>by
   rw[sortedHeap_old (br<|aS B)<|by rw[dH];exact fW<|aS B];exact aK _ B
  refine aM ⟨_,rfl,.ref h'.objs.size,_,I1.laid (t':=s.toks) (o:=.lst<|ns'.map V.int) old (aL _) ?_,rfl,q _ ns' (I1.hok.fresh<|aL _) G a3⟩;refine⟨by rw[aH,F,cO];lia,out.toList,e,uT L,?_⟩;rw[O]
 rcases t with t|t
 ·obtain⟨d,j,C,W⟩:=I.list t;obtain⟨o,z,f,n,hd⟩:=C.isList;exact J d "list" o n (.inl rfl) z f hd j
 ·obtain⟨d,j,C,W⟩:=I.tuple t;obtain⟨o,z,f,n,hd⟩:=C;exact J d "tuple" o n (.inr rfl) z f hd j
def Ak:jH X (.type "range") (λxs H Q=>∃i j,xs=[.int i,.int j]/\∀p,H p=none->Q (.ref p) (upd H p<|.rng i j)):=by
 gp_on;obtain⟨i,j,rfl,q⟩:=h;obtain⟨u,f,rfl,⟨t,rfl⟩,⟨d,rfl⟩⟩:=vals2 r;refine call_range_2 ⟨.ref s.heap.objs.size,_,I.laid (o:=.rng i j) (λb o e=>aK _ e) (aL _) ?_,rfl,q _ I.fresh⟩;exact⟨t,d,s.toks,bC _ rfl⟩
abbrev jG (i j:Int):ae:=(List.range (j-i).toNat).map λk:Nat=>i+(k:Int)
def l9(i j:Int):(jG i j).length=(j-i).toNat:=by unfold jG;rw[aH,List.length_range]
def xR{i:Int}{n:Nat}{acc:Array aa}(h:ItemsOf (λk v=>∃t,v=Value.int (i+(k:Int) * 1) t) acc n):Vals (((List.range n).map λk:Nat=>i+(k:Int)).map V.int) acc.toList:=by
 obtain⟨hs,hv⟩:=h;have d:∀(l:ar) (b:Nat),(∀j v,l[j]?=some v->∃t,v=Value.int (i+((b+j:Nat):Int)) t)->Vals (((List.range' b l.length).map λk:Nat=>i+(k:Int)).map V.int) l:=by
  intro l
  induction l with
  | nil=>intro b _;exact .nil
  | cons v l f=>
   intro b hb;rw[bB,List.range'_succ,bP,bP];refine .cons ?_ ?_
   ·obtain⟨t,e⟩:=hb 0 v rfl;exact⟨t,by rw[e];simp⟩
   ·refine f (b+1) λj w hw=>?_;obtain⟨t,e⟩:=hb (j+1) w hw;exact⟨t,by rw[e,show b+(j+1)=b+1+j by lia]⟩
 have:=d acc.toList 0 λj v g=>by
  obtain⟨t,e⟩:=hv j v (by simpa using g);exact⟨t,by rw[e,Nat.zero_add,Int.mul_one]⟩
 rw[dM,hs,<- eZ]at this;exact this
def IA{i j:Int}:Builtin.Range.rangeSize i j 1=(((j-i).toNat:Nat):Int):=by rw[rangeSize_one];split<;>omega
def yw(hc:X.calm=true):jH X (.type "list") (λxs H Q=>∃p i j,xs=[.ref p]/\H p=some (.rng i j)/\(-(2 ^ 62)<=i/\i<2 ^ 62/\-(2 ^ 62)<=j/\j<2 ^ 62)/\(j-i).toNat<=1000/\∀l,H l=none->Q (.ref l) (upd H l<|.lst<|(jG i j).map V.int)):=by
 gp_on;obtain⟨p,i,j,rfl,hp,⟨F,g,k,C⟩,hn,q⟩:=h;kln_w
 cases rx
 obtain⟨t,G,v,e⟩:=I.hok p _ hp;refine call_list_range (n:=(j-i).toNat) (I.ok.hd hc) e (small_one F g k C) IA () λh' J f z m B d=>?_;refine⟨.ref s.heap.objs.size,_,I.laid (o:=.lst<|(jG i j).map V.int) m (aL _) ⟨?_,f.toList,z,xR d,by rw[B]⟩,rfl,q _ I.fresh⟩;rw[aH,l9,cO];lia
end
section
variable {X:Cx}
def Bl{prog:ah}{w:af}{A:au}{E:aa->aA->Prop}{s:aA}{Q:ar->aA->Prop}{r:aj}{a b c:Int}{v:Tok}{n:Nat}(hh:A.handled=none)(hr:IsRange s.heap r a b c t u v)(hsmall:Builtin.Range.small a b c=true)
  (hn:Builtin.Range.rangeSize a b c=n) (hlen:n<=2 ^ 24)
  (hQ:∀h' tk (acc':Array aa),(∀b o,s.heap.get? b=some o->h'.get? b=some o)->ItemsOf (λi v=>∃t,v=.int (a+i * c) t) acc' n->Q acc'.toList { s with heap:=h',toks:=tk }) :
  wpAny (model prog w) A (collect<|.ref r) Q E s:=by
 unfold collect;refine aI<|wpAny_runValue<|fJ F.entry_proto_collect ?_;rw[e_ F.plain_proto_collect _]
 skip
 refine aI<|bV ?_;refine aM ⟨plainId_quiet F.plain_list_iadd _,fJ F.entry_list_iadd ?_⟩;rw[e_ F.plain_list_iadd _]
 skip
 have C:(s.heap.push {}).get? s.heap.objs.size=some { cls:=.type "list",data:=.seq #[] 0 }:=bC _ rfl;have k:∀(h':ak) (tk:Nat) (acc':Array aa) (j:Nat),(∀b o,b≠s.heap.objs.size->(s.heap.push {}).get? b=some o->h'.get? b=some o) ->
   h'.get? s.heap.objs.size=some { cls:=.type "list",dict:=none,data:=.seq acc' j,slots:=#[]}->ItemsOf (λi v=>∃t,v=.int (a+i * c) t) acc' n ->
   wpAny (model prog w) A (match Value.ref s.heap.objs.size with
   | Value.ref a=>do
    match (<- load a).data with
     | Data.seq xs _=>pure xs.toList
     | _=>unsupported "internal:collect"
   | _=>unsupported "internal:collect") Q E { s with heap:=h',toks:=tk }:=by
  intro h' tk acc' j m g d
  skip
  refine aI<|wpAny_load g ?_;refine aM ?_;exact hQ h' tk acc' (λb o e=>m b o (br<|aS e)<|aK _ e) d
 refine cE (wpAny_extend_range (A:=A) (R:=λz s'=>z=.ok (.ret<|.ref s.heap.objs.size)/\∃h' tk acc' j,s'={ s with heap:=h',toks:=tk }/\(∀b o,b≠s.heap.objs.size->(s.heap.push {}).get? b=some o->h'.get? b=some o) /\
   h'.get? s.heap.objs.size=some { cls:=.type "list",dict:=none,data:=.seq acc' j,slots:=#[]}/\ItemsOf (λi v=>∃t,v=.int (a+i * c) t) acc' n)
  (s:={ s with heap:=s.heap.push {}}) hh (aK _ hr) hsmall hn hlen s.heap.objs.size (.ref s.heap.objs.size) 0 C
  (λh' tk acc' j m g d=>⟨rfl,h',tk,acc',j,rfl,m,g,d⟩)) (λq s' h=>?_) λe s' h=>?_
 ·cases q with
  | done f=>
   obtain⟨e,h',tk,acc',j,rfl,m,g,d⟩:=h
   cases e
   exact k h' tk acc' j m g d
  | again j=>exact⟨h.1,eU h.2 λr B hr=>by
    obtain⟨rfl,h',tk,acc',j,rfl,m,g,d⟩:=hr;exact k h' tk acc' j m g d⟩
 ·exact absurd h.1<|by simp
def sG(l:aj){a b:Int}{v:Tok}{n:Nat}(hsmall:Builtin.Range.small a b 1=true)
  (hn:Builtin.Range.rangeSize a b 1=n) (hlen:n<=1000) :
  Meets (Builtin.«tuple.__new__» ⟨[.type "tuple",.ref l],[]⟩)
   (λA R s=>A.handled=none/\IsRange s.heap l a b 1 t u v/\∀(h':ak) (tk:Nat) (acc':Array aa),(∀b o',s.heap.get? b=some o'->h'.get? b=some o')->ItemsOf (λi v=>∃t,v=.int (a+i * 1) t) acc' n->R (.ok<|.ret<|.ref h'.objs.size) { s with heap:=h'.push { cls:=.type "tuple",data:=.seq acc' },toks:=tk }):=
 .of_wp λprog w A R s h=>by
  obtain⟨hp,g,d,tk,os⟩:=s;obtain⟨G,q,h⟩:=h;have z:=sub_tuple_self;have k:=init_tuple_lookup;have F:=madeHere_tuple;have B:Shared.TypeIs ⟨hp,g,d,tk,os⟩ (.ref l) "range" := ⟨_,q,rfl⟩;have j:A.in1.handled=none:=G
  wp_walk using AutoSeq1.wpAny_loadPart' q,wpAny_typeOf B,Bl (A:=A.in1) j q hsmall hn (by omega)
  intro h' m acc' C f;show wpAny _ _ (Builtin.Tuple.tupleExact acc'.toList.toArray >>= λv=>ret v) _ _ _;unfold Builtin.Tuple.tupleExact;have e:acc'.toList.toArray=acc':=by simp
  refine aI (bV ?_<|by show acc'.toList.toArray.size<=sizeLine;rw[e,f.1,cO];omega);refine aM ⟨_,rfl,?_⟩;rw[e];exact h h' m acc' C f
def xg(hc:X.calm=true):jH X (.type "tuple") (λxs H Q=>∃p i j,xs=[.ref p]/\H p=some (.rng i j)/\(-(2 ^ 62)<=i/\i<2 ^ 62/\-(2 ^ 62)<=j/\j<2 ^ 62)/\(j-i).toNat<=1000/\∀l,H l=none->Q (.ref l) (upd H l<|.tup<|(jG i j).map V.int)):=by
 gp_on;obtain⟨p,i,j,rfl,hp,⟨G,m,z,C⟩,hn,q⟩:=h;kln_w
 cases rx
 obtain⟨t,J,v,e⟩:=I.hok p _ hp;refine callType_new F.called_tuple ⋯ (F.typeCall_tuple_1 _) (F.newCall_tuple_1 _) (λg=>F.args_object_init_2 g _) F.entry_tuple_new
  (sG (n:=(j-i).toNat) p (small_one G m z C) IA hn) ⟨I.ok.hd hc,e,λh' k d B f=>⟨⟨_,bC _ rfl,rfl⟩,?_⟩⟩
 have I1:Inv X pins σ H { s with heap:=h',toks:=k }:=I.kept B;refine⟨.ref h'.objs.size,_,I1.laid (t':=k) (o:=.tup<|(jG i j).map V.int) (λb o e=>aK _ e) (aL _) ⟨?_,d.toList,xR f,?_⟩,rfl,q _<|I1.hok.fresh<|aL _⟩
 ·rw[aH,l9,cO];lia
 ·have e:d.toList.toArray=d:=by simp
  rw[e];exact mL.new _ _
abbrev Ux (K:aq)(te:TE):TE:=λσ H Q=>te σ H λx H1=>∃a xs,x=.ref a/\kP K H1 a xs/\∀p,H1 p=none->Q (.ref p) (upd H1 p<|.lst xs.reverse)
def MB{te:TE}{cp:Pos}(he:PE X e te):PE X (.Subscript e (.Slice none none (some<|.UnaryOp .USub (.Constant (.int 1) kk cp) up) p2) pos) (Ux X.K te):=by
 fin2;refine Subscript_<|ki (he pins s σ H _ I h) λv B ⟨x,H1,I1,r1,a,xs,ex,z,q⟩=>?_;subst ex
 cases r1
 refine wpAny_Slice ?_;rw[ir];refine aM ?_;refine aM ?_;rw[evalPart_some];refine ki ((HE (a:=.Constant (.int 1) kk cp) Dm Dn) pins B σ H1 (λv H'=>v=.int (-1)/\H'=H1) I1 ⟨1,rfl,rfl,rfl⟩) λvs d h9=>?_;obtain⟨y,m,I3,r3,k,C⟩:=h9;subst k C;obtain⟨t,rfl⟩:=r3;have I4:Inv X pins σ m { d with heap:=d.heap.push { cls:=.type "slice",data:=.fields #[.none,.none,.int (-1) t]}}:=I3.kept (t':=d.toks) λb ob q=>aK _ q;obtain⟨its,j,g,F⟩:=I4.list z
 skip
 refine tail_any (ops:=[.ref a,.ref d.heap.objs.size]) g.isList.typeIs g_.lookup ?_ (by with_unfolding_all rfl);have f:=j.length;refine wpAny_getItem_list_slice g.isList (gS ..) .none .none (.int (-1) t) ⋯ ?_ (by rw[aP]<;>lia);rw[PySem.W.krv_pick];refine⟨.ref _,_,I4.Lq (t':=d.toks) (ys:=xs.reverse) (its:=its.reverse) j.reverse<|by rw[eF];exact F,rfl,q _ I4.fresh⟩
def Bd:jH X (.builtin "isinstance") (λxs H Q=>∃x t b,xs=[x,.ty c]/\TyOf X.K H x t/\PySem.W.kitOne X.K t (.type c)=some b/\Q (.bl b) H):=by
 gp_on;obtain⟨x,t,b,rfl,ty,e,q⟩:=h;obtain⟨u,g,rfl,rx,d⟩:=vals2 r
 cases d
 exact G0 I rx ty e λf=>⟨.bl b,H,I.tok f,rfl,q⟩
abbrev PD (K:aq):R2:=λx y H Q=>∃a b ys,x=.ref a/\y=.ref b/\m8 K H a []/\m8 K H b ys/\Q (.ref b) H
def IK:nO X (binaryOp .Add) (PD X.K):=by
 ksr_p;obtain⟨a,b,ys,rfl,rfl,h1,F,q⟩:=h
 cases rx
 cases ry
 obtain⟨us,r1,p1,_⟩:=I.tuple h1;obtain⟨G,r2,p2,_⟩:=I.tuple F
 cases r1
 obtain⟨⟨cls,dd,data,C⟩,z,hc,n,hd⟩:=id p1;obtain⟨⟨t,m,k,j⟩,d,g,B,f⟩:=id p2;simp only at hc hd g f;subst hc hd g f;exact concat_meets ⟨_,z,rfl⟩ ⟨_,d,rfl⟩ noFill_tuple_add seq_tuple_add fS fO (fE _ _)
   (tuple_addW0 a b _ G.toArray n B dd m C j<|by simp) ⟨z,d,⟨.ref b,H,I,rfl,q⟩⟩
end
def jw:bootBuiltins "len" = some (.builtin "len"):=by decide +kernel
def vc:bootBuiltins "all" = some (.builtin "all"):=by decide +kernel
def Oz:bootBuiltins "max" = some (.builtin "max"):=by decide +kernel
def Qs:bootBuiltins "min" = some (.builtin "min"):=by decide +kernel
def rY:bootBuiltins "sorted" = some (.builtin "sorted"):=by decide +kernel
def jN:bootBuiltins "isinstance" = some (.builtin "isinstance"):=by decide +kernel
def Hx:bootBuiltins "int" = some (.type "int"):=by decide +kernel
def D5:bootBuiltins "bool" = some (.type "bool"):=by decide +kernel
def lP:bootBuiltins "list" = some (.type "list"):=by decide +kernel
def Bk:bootBuiltins "tuple" = some (.type "tuple"):=by decide +kernel
def BI:bootBuiltins "range" = some (.type "range"):=by decide +kernel
structure Blt (mg:Str->be):Prop where
 len:mg "len" = none
 abs:mg "abs" = none
 all:mg "all" = none
 any:mg "any" = none
 max:mg "max" = none
 min:mg "min" = none
 sorted:mg "sorted" = none
 isinstance:mg "isinstance" = none
 int:mg "int" = none
 bool:mg "bool" = none
 str:mg "str" = none
 list:mg "list" = none
 tuple:mg "tuple" = none
 range:mg "range" = none
def L_:∀{a b:ae},a.Perm b->a.Pairwise (·<=·)->b.Pairwise (·<=·)->a=b:=λp f hb=>
 List.Perm.eq_of_pairwise (λx y _ _ h1 d=>iz h1 d) f hb p
def tH(i j:Int):(jG i j).Nodup:=by
 unfold jG;rw[List.Nodup,fX];exact List.pairwise_lt_range.imp λh=>()
def kW{i j k:Int}:k∈jG i j ↔ i<=k/\k<j:=by
 unfold jG;rw[bA];constructor
 ·rintro⟨a,d,rfl⟩;have:=cZ.mp d;omega
 ·rintro⟨h1,f⟩;exact⟨(k-i).toNat,cZ.mpr<|by omega,by omega⟩
abbrev Kn (P:ah)(w:af)(K:aq)(mg:Str->be)(base:ak)(k:Nat)(x:Str)(ps:am)(sp:Sp):Prop:=
 ∃(f:aj) (fd:FuncData),FnOk P w K mg base qG k f fd ps sp/\mg x=some (.ref f)/\PySem.W.keepIn K (.ref f)=true/\Binds K fd ps []
def RY{X:Cx}{k:Nat}{x:Str}{sp:Sp}{t:TA}{p:Pos}(G:Kn X.prog X.w X.K X.mg X.base k x ps sp)(hr:Room k X.A)(ha:PA X (e::es) t)(hg:Gl X x:=by rfl)
  (hdb:(x == ("__debug__" : Str))=false:=by decide) (hs:starEach (e::es) X.env=(false,eval e X.env)::starEach es X.env:=by rfl) (hplain:(backTo pos<|starEach es X.env).any (·.1)=false:=by rfl) :
  PE X (.Call (.Name x p) (e::es) [] pos) (LK sp [] E0 t):=by
 obtain⟨f,fd,F,hm,d,hb⟩:=G;exact EF F hr hg hm d hb .nil QO ha hdb hs hplain
abbrev ya (XN fs:am):am->List (bo)->Prop
 | [],[]=>True
 | _::N,none::c=>ya XN fs N c
 | x::N,some j::c=>XN[j]?=some x/\x∈fs/\ya XN fs N c
 | _,_=>False
theorem ya.len{fs:am}:∀{N:am}{c:List<|bo},ya XN fs N c->c.length=N.length
 | [],[],_=>rfl
 | _::N,none::c,h=>b_ (·+1) (ya.len (N:=N) (c:=c) h)
 | _::N,some j::c,h=>b_ (·+1) (ya.len (N:=N) (c:=c) h.2.2)
 | [],_::_,h=>h.elim
 | _::_,[],h=>h.elim
theorem ya.cp{fs:am}:∀{N:am}{c:List<|bo},ya XN fs N c->∀(i j:Nat) (x:Str),N[i]?=some x->c[i]?=some (some j)->XN[j]?=some x/\x∈fs
 | [],[],_,i,j,x,h1,_=>by simp at h1
 | y::N,none::c,h,i,j,x,h1,h2=>by
  cases i with
  | zero=>simp at h2
  | succ i=>exact ya.cp (N:=N) (c:=c) h i j x (by simpa using h1)<|by simpa using h2
 | y::N,some k::c,h,i,j,x,h1,h2=>by
  cases i with
  | zero=>
   simp at h1 h2;subst h1 h2;exact⟨h.1,h.2.1⟩
  | succ i=>exact ya.cp (N:=N) (c:=c) h.2.2 i j x (by simpa using h1)<|by simpa using h2
 | [],_::_,h,_,_,_,_,_=>h.elim
 | _::_,[],h,_,_,_,_,_=>h.elim
theorem ku{X:Cx}{scope:Scope}{N:am}(fs:am)(kind:scope.kind=.function)(nocf:∀y∈scope.names,y.2=.cell->scope.names.lookup y.1=some .cell/\(y.1,NameKind.free)∉scope.names)(nm:∀y∈scope.names,y.2=.local->scope.names.lookup y.1=some .local)
  (nolf:∀y∈scope.names,y.2=.free->scope.names.lookup y.1≠some .local) (hf:∀y∈scope.names,y.2=.free->y.1∈fs) (hfs:∀x∈fs,(x,NameKind.free)∈scope.names) (hk:∀x∈fs,X.env.kindOf x=some .cell\/X.env.kindOf x=some .free) (cp:ya X.N fs N cap):CpScope X scope N cap where
 kind:=kind
 nocf:=λx hf hc=>(nocf (x,.cell) hc rfl).2 hf
 nm:=nm
 fr:=λy hy e=>hk _ (hf y hy e)
 rl:=λy h=>by
  have g:∀k,(k=NameKind.cell\/k=NameKind.free)->(relabel scope X.env).names.lookup y=some k->(y,NameKind.free)∈scope.names\/scope.names.lookup y=some .cell:=λk hk e=>by
   obtain⟨⟨t,m⟩,f,d⟩:=bA.mp<|xE e;dsimp only at d;split at d
   ·rename_i hc
    cases d
    have:m=.free:=by
     dsimp[bE]at hc;simpa using hc.1.1
    subst this;exact .inl f
   ·cases d
    rcases hk with rfl|rfl
    ·exact .inr (nocf _ f rfl).1
    ·exact .inl f
  rcases h with h|h
  ·exact g _ (.inl rfl) h
  ·exact g _ (.inr rfl) h
 len:=cp.len
 nolf:=λx hx=>nolf (x,.free) hx rfl
 cp:=λi j x h1 q=>by
  obtain⟨a,b⟩:=cp.cp i j x h1 q;exact⟨a,hfs x b⟩
inductive Kd where
 | jC|bl|int|str|lst|tup
 deriving DecidableEq
abbrev Kd.ty:Kd->aa
 | .jC=>.type "NoneType" | .bl=>.type "bool" | .int=>.type "int" | .str=>.type "str" | .lst=>.type "list" | .tup=>.type "tuple"
abbrev PF (H:Hp)(x:V):Kd->Prop
 | .jC=>x=.jC
 | .bl=>∃b,x=.bl b
 | .int=>∃i,x=.int i
 | .str=>∃s,x=.str s
 | .lst=>∃a xs,x=.ref a/\H a=some (.lst xs)
 | .tup=>∃a xs,x=.ref a/\H a=some (.tup xs)
def PF.TZ{K:aq}{H:Hp}{x:V}{k:Kd}(h:PF H x k):TyOf K H x k.ty:=by
 cases k with
 | jC=>cases h;exact .jC
 | bl=>obtain⟨b,rfl⟩:=h;exact .bl b
 | int=>obtain⟨b,rfl⟩:=h;exact .int b
 | str=>obtain⟨b,rfl⟩:=h;exact .str b
 | lst=>obtain⟨a,xs,rfl,e⟩:=h;exact .lst e
 | tup=>obtain⟨a,xs,rfl,e⟩:=h;exact .tup e
def Nm{K:aq}(k:Kd):PySem.W.kitOne K k.ty (.type "int")=some (decide<|k=.int\/k=.bl):=by cases k<;>rfl
def Le{K:aq}(k:Kd):PySem.W.kitOne K k.ty (.type "bool")=some (decide<|k=.bl):=by cases k<;>rfl
def kit_tuple{K:aq}(k:Kd):PySem.W.kitOne K k.ty (.type "tuple")=some (decide<|k=.tup):=by cases k<;>rfl
def KU{K:aq}(k:Kd):PySem.W.kitOne K k.ty (.type "list")=some (decide<|k=.lst):=by cases k<;>rfl
def Aa:bootBuiltins "enumerate" = some (.type "enumerate"):=by decide +kernel
section
variable {prog:ah}{w:af}{A:au}{E:aa->aA->Prop}{s:aA}
def CZ(n:Nat):Builtin.Slice.sliceAdjust none none (-1) (n:Int)=((n:Int)-1,-1):=by
 unfold Builtin.Slice.sliceAdjust;rfl
def CK(n:Nat):Builtin.Slice.slicePlaces ((n:Int)-1) (-1) (-1)=n:=by
 unfold Builtin.Slice.slicePlaces;have h1:¬((-1:Int)>0):=by decide
 dsimp[h1,eG];by_cases h:n=0
 ·subst h;simp
 ·rw[bf ()];rw[show(- -1:Int)=1 by decide,ediv_one]
  lia
def ve{n:Nat}{Q:Int×Int×Nat->aA->Prop}(hs:s.heap.IsSliceOf sl .none .none<|.int (-1) t)
  (h:Q ((n:Int)-1,-1,n) s):wpAny (model prog w) A (Builtin.Slice.sliceApplied (.ref sl)<|pure (n:Int)) Q E s:=by
 obtain⟨os,f,g,d⟩:=id hs;unfold Builtin.Slice.sliceApplied Builtin.Slice.sliceFields;refine aI<|aI<|d8 f d (x:=.none) rfl<|aI<|d8 f d (x:=.none) rfl<|aI<|d8 f d (x:=.int (-1) t) rfl<|aM ?_;refine aI (slicePart_int ?_)
 skip
 rw[bu ⋯];refine aI<|slicePart_none<|aI<|slicePart_none<|aI<|aM ?_;show wpAny _ _ (match Builtin.Slice.sliceAdjust none none (-1) (n:Int)with|(lo,hi)=>pure (lo,(-1:Int),Builtin.Slice.slicePlaces lo hi<|-1)) _ _ s;rw[CZ n];show wpAny _ _ (pure ((n:Int)-1,(-1:Int),Builtin.Slice.slicePlaces ((n:Int)-1) (-1)<|-1)) _ _ s;rw[CK];exact aM h
def KO(xs:Array aa):((List.range xs.size).filterMap λ(m:Nat)=>xs[((xs.size:Int)-1+(m:Int) * (-1)).toNat]?).toArray=xs.toList.reverse.toArray:=by
 have e:(λ(m:Nat)=>xs[((xs.size:Int)-1+(m:Int) * (-1)).toNat]?)=(λx=>xs[x]?) ∘ λk=>xs.size-1-k:=by
  funext m
  have:((xs.size:Int)-1+(m:Int) * (-1)).toNat=xs.size-1-m:=()
  show xs[((xs.size:Int)-1+(m:Int) * (-1)).toNat]?=xs[xs.size-1-m]?;rw[this]
 rw[e,<- List.filterMap_map,PySem.W.krv_range,List.filterMap_reverse,PySem.W.krv_all]
def uF{items:Array aa}{Q:aa->aA->Prop}(ht:IsTup s.heap t items)(hs:s.heap.IsSliceOf sl .none .none<|.int (-1) tk)
  (h:Q (.ref s.heap.objs.size) { s with heap:=s.heap.push { cls:=.type "tuple",data:=.seq items.toList.reverse.toArray }})
  (hsz:items.size<=sizeLine):wpAny (model prog w) A (getItem (.ref t)<|.ref sl) Q E s:=by
 have d:sizeOk (.seq items.toList.reverse.toArray):=by
  show items.toList.reverse.toArray.size<=sizeLine;rw[aP,eF,dM];exact hsz
 obtain⟨os,g,j,z⟩:=id hs;have k:s.TypeIs (.ref sl) "slice" := ⟨os,g,j⟩;unfold getItem
 try with_reducible refine cL ?_
 first|refine aI (aM ?_)|skip
 refine aI<|wpAny_sequenceKey ht.typeIs ⋯ ?_;refine aI (fQ (name:=Str.ofString "__getitem__") ht.typeIs cF
  (gp cF ht.typeIs entry_tuple_getitem ?_<|args_tuple_getitem _ _))
 show wpAny _ _ (Builtin.Tuple.tupleItemsOf (.ref t) >>= _) _ _ s;refine aI<|tupleItemsOf_ ht ?_;refine aI<|wpAny_typeOf k ?_;rw[bf ⋯];refine aI<|ve hs ?_;have f:¬((((items.size:Int)-1) == 0 && (-1:Int) == 1 && items.size == items.size)=true):=by
  intro q;rw[bE,bE]at q;exact absurd q.1.2 ⋯
 show wpAny _ _ (if (((items.size:Int)-1) == 0 && (-1:Int) == 1 && items.size == items.size)=true then _ else _) _ _ s;rw[bu f,KO]
 first
  | exact aI (m:=Builtin.Tuple.tupleExact _) (bV (aM ⟨_,rfl,aM h⟩) d)
  | exact aI (m:=Builtin.Tuple.tupleExact _) (bV (aI<|aM<|aM ⟨_,rfl,aM h⟩) d)
  | exact aI (aI (m:=Builtin.Tuple.tupleExact _)<|bV (aM<|aM ⟨_,rfl,aM h⟩) d)
  | exact aI<|aI (m:=Builtin.Tuple.tupleExact _)<|bV (aM ⟨_,rfl,aM h⟩) d
end
section
variable {X:Cx}
abbrev QW (K:aq)(te:TE):TE:=λσ H Q=>te σ H λx H1=>∃a xs,x=.ref a/\m8 K H1 a xs/\∀p,H1 p=none->Q (.ref p) (upd H1 p<|.tup xs.reverse)
def Fp{te:TE}{cp:Pos}(he:PE X e te):PE X (.Subscript e (.Slice none none (some<|.UnaryOp .USub (.Constant (.int 1) kk cp) up) p2) pos) (QW X.K te):=by
 fin2;refine Subscript_<|ki (he pins s σ H _ I h) λv F ⟨x,H1,I1,r1,a,xs,ex,C,q⟩=>?_;subst ex
 cases r1
 refine wpAny_Slice ?_;rw[ir];refine aM ?_;refine aM ?_;rw[evalPart_some];refine ki ((HE (a:=.Constant (.int 1) kk cp) Dm Dn) pins F σ H1 (λv H'=>v=.int (-1)/\H'=H1) I1 ⟨1,rfl,rfl,rfl⟩) λvs d h9=>?_;obtain⟨y,B,I3,r3,z,G⟩:=h9;subst z G;obtain⟨t,rfl⟩:=r3;have g:Inv X pins σ B { d with heap:=d.heap.push { cls:=.type "slice",data:=.fields #[.none,.none,.int (-1) t]}}:=I3.kept (t':=d.toks) λb ob q=>aK _ q;obtain⟨f,m,k,J⟩:=g.tuple C
 skip
 refine tail_any (ops:=[.ref a,.ref d.heap.objs.size]) k.typeIs cF.lookup ?_ (by with_unfolding_all rfl);have j:=m.length;refine uF k (gS ..) ?_ (by rw[aP]<;>lia);refine⟨.ref _,_,g.laid (t':=d.toks) (o:=.tup xs.reverse) (λb o e=>aK _ e) (aL _) ⟨by rw[eF];exact J,f.reverse,m.reverse,?_⟩,rfl,q _ g.fresh⟩;exact mL.new _ _
end
def Ag(elt t1 i1 t2 i2:aC)(f1 f2:List aC)(scope:Scope)(pos:Pos)(it acc:aa)(env:Env) :
  compTurn (.ListComp elt [⟨t1,i1,f1,0⟩,⟨t2,i2,f2,0⟩] scope pos) 0 it acc env=(do
   standAt i1.pos
   match <- pyNext it with
   | none=>pure (.done .next)
   | some v=>
    letOwnedTupleGo t1 it v
    assign t1 env v
    let mut ok:=true
    for c in f1 do
     if ok then ok <- isTrue c env (eval c env)
    if ok then
     let x <- eval i2 env
     standAt i2.pos
     let x <- foldedSetIterable i2 env x
     let _ <- runOwn (.compStart (.ListComp elt [⟨t1,i1,f1,0⟩,⟨t2,i2,f2,0⟩] scope pos) 1 (<- holding [x] (pyIter x)) acc env) env
    again (.compLoop (.ListComp elt [⟨t1,i1,f1,0⟩,⟨t2,i2,f2,0⟩] scope pos) 0 it acc env)):=by rfl
def Ay(elt t1 i1 t2 i2:aC)(f1 f2:List aC)(scope:Scope)(pos:Pos)(it acc:aa)(env:Env) :
  compTurn (.ListComp elt [⟨t1,i1,f1,0⟩,⟨t2,i2,f2,0⟩] scope pos) 1 it acc env=(do
   standAt i2.pos
   match <- pyNext it with
   | none=>pure (.done .next)
   | some v=>
    letOwnedTupleGo t2 it v
    assign t2 env v
    let mut ok:=true
    for c in f2 do
     if ok then ok <- isTrue c env (eval c env)
    if ok then
     (do let _ <- call (.builtin "list.append") [acc,<- eval elt env])
    again (.compLoop (.ListComp elt [⟨t1,i1,f1,0⟩,⟨t2,i2,f2,0⟩] scope pos) 1 it acc env)):=by rfl
section
variable {prog:ah}{w:af}{A:au}{R:Result->aA->Prop}{s:aA}
def qN{f1 f2:List aC}{env:Env}
  (h0:codeAny (model prog w) A (.compLoop (.ListComp elt [⟨t1,i1,f1,0⟩,⟨t2,i2,f2,0⟩] scope pos) 1 it acc env) R s)
  (h:wpAny (model prog w) A (pyIter it) (λit' s'=>codeAny (model prog w) A (.compLoop (.ListComp elt [⟨t1,i1,f1,0⟩,⟨t2,i2,f2,0⟩] scope pos) 1 it' acc env) R s')
   (notedBy (model prog w) A env λx s'=>R (.error x) s') s) :
  codeAny (model prog w) A (.compStart (.ListComp elt [⟨t1,i1,f1,0⟩,⟨t2,i2,f2,0⟩] scope pos) 1 it acc env) R s:=by
 refine codeAny_of_tree ?_
 skip
 refine wpAny_notedAt ?_;unfold compStart
 skip
 refine aI<|wpAny_askSetting<|wpAny_ite ?_;split
 ·first
   | exact aI (aM<|aM<|anI rfl h0)
   | exact aM<|anI rfl h0
 ·first
   | exact aI (gq<|aI<|cz<|aI<|cE h (λit' s' h'=>aM<|anI rfl h') λ_ _ x=>x)
   | (refine aI<|gq ?_;show wpAny _ _ (standAt i2.pos >>= _) _ _ s;exact aI<|cz<|aI<|cE h (λit' s' h'=>aM<|anI rfl h') λ_ _ x=>x)
end
abbrev JN (g:TG)(tc:TT)(te:TE)(D:aj)(Nn:L2.St->Hp->Prop)(σ:L2.St)(J:It)(H1:Hp):Prop:=
 ∃V:Nat->Nat->L2.St->Hp->Prop,(∃m,V 0 m σ H1)/\∀i m f H',V i m f H' ->
  (J.stop i H'/\Nn f H')\/(J.go i H'/\∀x H2,J.yld i H' x H2->g x f H2 λd k=>tc d k λb j=>
   if b=true then te d j λy H5=>∃ys,H5 D=some (.lst ys)/\ys.length<sizeLine/\∃m',m'<m/\V (i+1) m' d (upd H5 D<|.lst<|ys++[y])
   else ∃m',m'<m/\V (i+1) m' d j)
def Dg{Z:Cx}{f1:List aC}{fp:ba}{tn:Nat->ak->Prop}{H:Hp}{s:aA}{g:TG}{tc:TT}{te:TE}{Nn:L2.St->Hp->Prop}
  (hc:Z.calm=true) (hxe:Z.xe=λ_ _=>False) (T:Turn Z.prog Z.w Z.K tg J fp it tn) (I:Inv Z pins σ H s) (st:tn 0 s.heap) (hf:∀b∈fp,oS Z pins H b) (hg:PG Z tg g) (ht:CQ Z ifs tc) (he:PE Z elt te) (goal:JN g tc te D Nn σ J H) :
  codeAny (model Z.prog Z.w) Z.A (.compLoop (.ListComp elt [⟨t1,i1,f1,0⟩,⟨tg,i2,ifs,0⟩] scope pos) 1 (.ref it) (.ref D) Z.env) (λr s'=>r=.ok .next/\∃σ' H',Inv Z pins σ' H' s'/\Nn σ' H') s:=by
 obtain⟨V,⟨m0,v0⟩,C⟩:=goal;have j:∀{H':Hp},(∀b∈fp,H' b=none)->∀b∈fp,oS Z pins H' b:=λhn b hb=>⟨hn b hb,(hf b hb).2⟩;refine gM rfl (λn s'=>∃i σ' H',Inv Z pins σ' H' s'/\tn i s'.heap/\(∀b∈fp,H' b=none)/\V i n σ' H') (λn s5 hI=>?_) m0 ⟨0,σ,H,I,st,λb hb=>(hf b hb).1,v0⟩;obtain⟨i,σ5,H5,Y,G,B,w5⟩:=hI
 skip
 refine h_ ?_;rw[Ay];refine aI (cz<|aI ?_)
 rcases C i n σ5 H5 w5 with⟨F,q⟩|⟨go,step⟩
 ·refine ki (T.done Z rfl rfl rfl hc i pins s5 σ5 H5 _ Y (j B) G F) λr s6 h9=>?_;obtain⟨P,I6⟩:=h9;subst P;exact aM ⟨rfl,σ5,H5,I6,q⟩
 ·refine ki (T.item Z rfl rfl rfl hc i pins s5 σ5 H5 _ Y (j B) G go) λr s6 h9=>?_;obtain⟨u,P,h6⟩:=h9;subst P;mg_lt;have O:=I7.pinned (j fr7)<|T.obj _ _ st7;have k:∀{α:Type} {t:Sem α} {Q Q':α->aA->Prop} {E:aa->aA->Prop} {s:aA},wpAny (model Z.prog Z.w) Z.A t Q Z.xe s->(∀a s,Q a s->Q' a s)->wpAny (model Z.prog Z.w) Z.A t Q' E s:=λh hQ=>by
   rw[hxe]at h;exact uv h hQ
  refine aI<|k (hg _ s7 σ5 H7 x u _ O r7<|step x H7 y7) λ_ s8 ⟨σ8,H8,I8,q8⟩=>?_;refine aI<|k (ht _ s8 σ8 H8 _ I8 q8) λok s9 ⟨H9,I9,L⟩=>?_;have again:∀{f:aA} {H10:Hp},Inv Z (pins++qv fp s7.heap) σ8 H10 f->(∃m',m'<n/\V (i+1) m' σ8 H10) ->
    ∃m,m<n/\∃i σ' H',Inv Z pins σ' H' f/\tn i f.heap/\(∀b∈fp,H' b=none)/\V i m σ' H':=λ{f H10} I10 h9=>by
   obtain⟨m',hm,w10⟩:=h9;kpc_g;obtain⟨o,e,d⟩:=T.obj _ _ st7 b hb;exact(I10.pin (b,o)<|aU _<|aU _<|jK hb e).2.1
  cases ok with
  | false=>
   rw[bu bz]at L;exact aM ⟨rfl,again I9 L⟩
  | true=>
   rw[bf rfl]at L;refine aI<|aI<|k (he _ s9 σ8 H9 _ I9 L) λy f ⟨z,H10,I10,N,ys,hD,hz,w10⟩=>?_;refine aI<|k (u_ _ f σ8 H10 (.ref D) [z] _ [y] (λ_ H'=>H'=upd H10 D (.lst<|ys++[z])) I10 rfl (.cons N .nil) ⟨_,ys,z,rfl,rfl,hD,hz,rfl⟩) λ_ s11 ⟨_,H11,U,_,W⟩=>?_;subst W;exact aM<|aM ⟨rfl,again U w10⟩
abbrev LZ (cap:List<|bo)(g:TG)(tc:TT)(wi2:TI)(g2:TG)(tc2:TT)(te:TE)(σ:L2.St)(Q:VK)(J:It)(H1:Hp):Prop:=∀D,H1 D=none ->
 ∃W:Nat->Nat->L2.St->Hp->Prop,(∃m,W 0 m (cap.map<|LL σ)<|upd H1 D<|.lst [])/\∀i m f H',W i m f H' ->
  (J.stop i H'/\Q (.ref D) H')\/(J.go i H'/\∀x H2,J.yld i H' x H2->g x f H2 λd k=>tc d k λb j=>
   if b=true then wi2 d j (JN g2 tc2 te D (λσ5 H5=>∃m',m'<m/\W (i+1) m' σ5 H5) d)
   else ∃m',m'<m/\W (i+1) m' d j)
abbrev TJ (cap:List<|bo)(wi:TI)(g:TG)(tc:TT)(wi2:TI)(g2:TG)(tc2:TT)(te:TE):TE:=λσ H Q=>wi σ H<|LZ cap g tc wi2 g2 tc2 te σ Q
def PJ{X:Cx}{iter:aC}{N:am}{wi wi2:TI}{g g2:TG}{tc tc2:TT}{te:TE}(hc:X.calm=true)(S:CpScope X scope N cap)(hi:PI X tg iter wi)
  (hg:∀C s₀ H₀ ex,PG (jk X scope N C s₀ H₀ ex) tg g) (ht:∀C s₀ H₀ ex,CQ (jk X scope N C s₀ H₀ ex) ifs tc) (hi2:∀C s₀ H₀ ex,PI (jk X scope N C s₀ H₀ ex) tg2 iter2 wi2)
  (hg2:∀C s₀ H₀ ex,PG (jk X scope N C s₀ H₀ ex) tg2 g2) (ht2:∀C s₀ H₀ ex,CQ (jk X scope N C s₀ H₀ ex) ifs2 tc2) (he:∀C s₀ H₀ ex,PE (jk X scope N C s₀ H₀ ex) elt te)
  (hs:∀x,foldedSetIterable iter X.env x=pure x:=by intro _;rfl) (hs2:∀env x,foldedSetIterable iter2 env x=pure x:=by intro _ _;rfl):PE X (.ListComp elt [⟨tg,iter,ifs,0⟩,⟨tg2,iter2,ifs2,0⟩] scope pos) (TJ cap wi g tc wi2 g2 tc2 te):=by
 fin2;kd_p;rw[eval_ListComp];refine fF (use:=none) rfl hs (tU hfree) S.kind S.nm<|ki (hi pins s σ H _ I h) λxv s1 h1=>ki h1 λitv f h2=>?_;obtain⟨it,fp,tn,J,H2,rfl,I2,T,st2,f2,h2⟩:=h2;refine bV<|Au λO k old t=>?_;obtain⟨W,⟨m0,w0⟩,turn⟩:=h2 f.heap.objs.size I2.fresh;dsimp only at k old t ⊢;have I3:Inv X pins σ (upd H2 f.heap.objs.size<|.lst []) { f with heap:=f.heap.push {}}:=I2.Lq (t':=f.toks) (its:=[]) .nil<|cj _;have hfp:∀b∈fp,∃o,f.heap.get? b=some o:=λb hb=>by
  obtain⟨o,e,_⟩:=T.obj 0 _ st2 b hb;exact⟨o,e⟩
 have neD:∀b∈fp,b≠f.heap.objs.size:=λb hb=>by
  obtain⟨o,e⟩:=hfp b hb;exact br<|aS e
 have f3:∀b∈fp,oS X pins (upd H2 f.heap.objs.size<|.lst []) b:=λb hb=>⟨by rw[iS<|neD b hb];exact(f2 b hb).1,(f2 b hb).2⟩;have hDC:f.heap.objs.size≠(f.heap.push {}).objs.size:=by rw[dH];exact br (bG _)
 have I4:=CW (tk:=f.toks+([]:List<|Str×aa).length) (fp:=fp) S I3 f3 (λb hb=>by
  obtain⟨o,e⟩:=hfp b hb;exact⟨o,aK _ e⟩) k t old
 have Y:tn 0 O:=T.keep _ _ _ st2 λb hb o e=>old b o<|aK _ e;have B:∀{H':Hp},(∀b∈fp,H' b=none)->∀b∈fp,oS (jk X scope N (f.heap.push {}).objs.size { f with heap:=f.heap.push {}} (upd H2 f.heap.objs.size<|.lst []) fp) [] H' b:=λhn b hb=>by
  have ok:=I4.ok;cb_eq
 have L:∀s4:aA,s4={ f with heap:=O,toks:=f.toks+([]:List<|Str×aa).length } ->
   codeAny (model X.prog X.w) X.A (.compLoop (.ListComp elt [⟨tg,iter,ifs,0⟩,⟨tg2,iter2,ifs2,0⟩] scope pos) 0 (.ref it) (.ref f.heap.objs.size)<|compEnvC scope (cellsFrom ((f.heap.push {}).objs.size+1) scope.names<|qO X.env scope.names []) (f.heap.push {}).objs.size X.env)
    (compPost (model X.prog X.w) X.A X.xe none (EP X pins σ Q) (.ref f.heap.objs.size) (f.heap.push {}).objs.size) s4:=by
  rintro s4 rfl;refine gM rfl (λn s'=>∃i K H',Inv (jk X scope N (f.heap.push {}).objs.size { f with heap:=f.heap.push {}} (upd H2 f.heap.objs.size<|.lst []) fp) [] K H' s'/\tn i s'.heap/\(∀b∈fp,H' b=none)/\W i n K H') (λn s5 hI=>?_) m0 ⟨0,_,_,I4,Y,λb hb=>(f3 b hb).1,w0⟩;obtain⟨i,σ5,H5,I5,st5,V,w5⟩:=hI;show wpAny _ X.A ((compTurn (.ListComp elt [⟨tg,iter,ifs,0⟩,⟨tg2,iter2,ifs2,0⟩] scope pos) 0 (.ref it) (.ref f.heap.objs.size)<|compEnvC scope (cellsFrom ((f.heap.push {}).objs.size+1) scope.names<|qO X.env scope.names []) (f.heap.push {}).objs.size X.env).onRaise λx=>do noteFrame x _;theTreesLotGoes x) _ _ s5;refine h_ ?_;rw[Ag];refine aI (cz<|aI ?_)
  rcases turn i n σ5 H5 w5 with⟨stop,q⟩|⟨go,step⟩
  ·refine ki (T.done (jk X scope N (f.heap.push {}).objs.size { f with heap:=f.heap.push {}} (upd H2 f.heap.objs.size<|.lst []) fp) rfl rfl rfl hc i [] s5 σ5 H5 _ I5 (B V) st5 stop) λr s6 h9=>?_;obtain⟨hr,I6⟩:=h9;subst hr;obtain⟨m6,hn6,_⟩:=I6.loc;refine aM ⟨m6,hn6,λh' sb=>?_⟩;have u6:=I6.base;have nC:∀b o,(f.heap.push {}).get? b=some o->b≠(f.heap.push {}).objs.size:=λb o e=>br<|aS e;refine⟨.ref f.heap.objs.size,H5,?_,rfl,q⟩;kj_on
   ·exact sb.extBut b o (nC b o e) (u6.keep b o e n hb hx)
   ·obtain⟨sl,z⟩:=u6.slot b o e n hb hx;exact⟨sl,sb.extBut b _ (nC b o e) z⟩
   ·exact u6.free b o e n hx
   ·obtain⟨o',z⟩:=u6.there b o e hx;exact⟨o',sb.extBut b _ (nC b o e) z⟩
   ·intro b o e;have hb:∀c v,H5 c=some v->c≠(f.heap.push {}).objs.size:=λc v e z=>by
     rw[z]at e;have:=I6.free;rw[show H5 (f.heap.push {}).objs.size=none from this]at e
     cases e
    refine(I6.hok b o e).stay (λc v hc q=>sb.extBut c v ?_ q) (λ_ q=>q) λ_ _ q=>q
    rcases hc with z|z
    ·rw[z];exact hb b o e
    ·exact hb c _ z
   ·intro b hb;obtain⟨_,z1,_,z3,z4,z5⟩:=f3 b hb;exact⟨z3,z1,z4,z5⟩
  ·refine ki (T.item (jk X scope N (f.heap.push {}).objs.size { f with heap:=f.heap.push {}} (upd H2 f.heap.objs.size<|.lst []) fp) rfl rfl rfl hc i [] s5 σ5 H5 _ I5 (B V) st5 go) λr s6 h9=>?_;obtain⟨u,hr,h6⟩:=h9;subst hr;mg_lt;have I7':=I7.pinned (B fr7)<|T.obj _ _ st7;refine aI<|uv (hg _ _ _ fp _ s7 σ5 H7 x u _ I7' r7<|step x H7 y7) λ_ s8 ⟨σ8,H8,I8,q8⟩=>?_;refine aI<|uv (ht _ _ _ fp _ s8 σ8 H8 _ I8 q8) λok s9 ⟨H9,I9,q9⟩=>?_;have again:∀{F:aA} {H10:Hp} {j:L2.St},Inv (jk X scope N (f.heap.push {}).objs.size { f with heap:=f.heap.push {}} (upd H2 f.heap.objs.size<|.lst []) fp) ([]++qv fp s7.heap) j H10 F->(∃m',m'<n/\W (i+1) m' j H10) ->
     ∃m,m<n/\∃i K H',Inv (jk X scope N (f.heap.push {}).objs.size { f with heap:=f.heap.push {}} (upd H2 f.heap.objs.size<|.lst []) fp) [] K H' F/\tn i F.heap/\(∀b∈fp,H' b=none)/\W i m K H':=λ{F H10 j} I10 h9=>by
    obtain⟨m',hm,w10⟩:=h9;refine⟨m',hm,i+1,j,H10,I10.lI,T.keep _ _ _ st7 λb hb o e=>(I10.pin (b,o)<|aU _<|aU _<|jK hb e).1,λb hb=>?_,w10⟩;obtain⟨o,e,d⟩:=T.obj _ _ st7 b hb;exact(I10.pin (b,o)<|aU _<|aU _<|jK hb e).2.1
   cases ok with
   | false=>
    rw[bu bz]at q9;exact aM ⟨rfl,again I9 q9⟩
   | true=>
    rw[bf rfl]at q9;refine aI<|uv (hi2 _ _ _ fp _ s9 σ8 H9 _ I9 q9) λxv F h10=>aI<|cz ?_;rw[hs2];refine aI<|aM<|aI<|cL<|uv h10 λitv s11 h11=>?_;obtain⟨it2,fp2,tn2,J2,H11,rfl,U,T2,P,f11,goal⟩:=h11;have hcz:=hc;have G:=(λ(Z:Cx) (h1:Z.calm=true) (h2:Z.xe=λ_ _=>False) T2 U=>Dg (Z:=Z) (t1:=tg) (i1:=iter) (f1:=ifs) (i2:=iter2) (scope:=scope) (pos:=pos) h1 h2 T2 U) _ (show(jk X scope N _ _ _ fp).calm=true from hcz) rfl T2 U P f11 (hg2 _ _ _ fp) (ht2 _ _ _ fp) (he _ _ _ fp) goal;refine aI<|wpAny_runOwn<|eU (qN G<|T2.self _ 0 _ _ _ P G) λr s12 hr12=>?_;obtain⟨hr,σ12,H12,I12,n12⟩:=hr12;subst hr;exact aM ⟨rfl,again I12 n12⟩
 exact codeAny_compStart_list (L _ rfl)<|T.self _ 0 _ _ _ Y<|L _ rfl
end L2
namespace L2
open PySem PySem.Spec PyProof.Rows
open PySem.SeqAt
open PySem.AutoSeq1 (wpAny_loadPart')
open PySem.MeetsSeq PySem.MeetsSeq2 PySem.MeetsSeq3 PySem.SeqAt
section
variable {X:Cx}
def K7:nO X (binaryOp .FloorDiv) (rI (λ_ j=>0<j/\j<18446744073709551616) λi j=>.int<|i / j):=SH λi j _ _ _ _ _ hc q=>by
 have h1:(0:Int)<j:=hc.1;have d:j<18446744073709551616:=hc.2;refine floordiv_int (by omega) (by rw[Int.fdiv_eq_ediv_of_nonneg i<|by omega];exact q)<|.inl<|PyProof.noPylong_of_log2 ?_;exact bH ((Nat.log2_lt<|by omega).mpr<|show j.natAbs<2 ^ 64 by omega) ⋯
end
end L2
namespace L2
open PySem PySem.Spec PyProof.Rows
abbrev UD (x:Str):It:=⟨λi _=>i<x.cps.size,λi H v H'=>H'=H/\∃c,x.cps[i]?=some c/\v=.str ⟨#[c]⟩,λi _=>i=x.cps.size⟩
def Kc{P:ah}{w:af}{K:aq}(x:Str)(t:Tok)(it:aj):Turn P w K tg (UD x) [it] it (λi h=>h.IsStrIter it "str_ascii_iterator" x t i) where
 mem:=by simp
 obj:=λi h st b hb=>by
  have e:b=it:=by simpa using hb
  subst e;obtain⟨o,e,c,d⟩:=st;exact⟨o,e,λv z=>by rw[d]at z;cases z⟩
 keep:=λi h h' st k=>let⟨o,ho,r⟩:=st;⟨o,k it (by simp) o ho,r⟩
 item:=by
  z_go;subst hP hw hK;w_up;have W:=Walks.strAscii (prog:=X.prog) (w:=X.w) (I.ok.hd hc) it x t;refine W.item i s _ _ hg st λv h' j hv f kk=>?_;obtain⟨c,u,g,rfl⟩:=hv;have I1:Inv X pins σ H { s with heap:=h',toks:=j }:=I.turned (λb o hb e=>kk b o (by simpa using hb) e) f0 f1 f3 f4 f5;obtain⟨o,e,m,d⟩:=id f;exact⟨_,rfl,yW (s:={ s with heap:=h',toks:=j }) e m d ⋯ ⟨.str ⟨#[c]⟩,H,I1,⟨u,rfl⟩,⟨rfl,c,g,rfl⟩,f,λb hb=>(hf b hb).1⟩⟩
 done:=by
  z_go;subst hP hw hK;w_up;have hg:i=x.cps.size:=hg;subst hg;have W:=Walks.strAscii (prog:=X.prog) (w:=X.w) (I.ok.hd hc) it x t;exact W.done s _ _ st λh' j kk=>⟨rfl,I.turned (λb o hb e=>kk b o (by simpa using hb) e) f0 f1 f3 f4 f5⟩
 self:=λ_ _ _ _ _ st h=>wpAny_pyIter_striter_ascii st h
section
variable {X:Cx}{tg:aC}
abbrev TU (tl:TE):TI:=λσ H R=>tl σ H λx H1=>∃y:Str,x=.str y/\y.cps.all (· < 128)=true/\R (UD y) H1
def Pp{tl:TE}(hl:PE X l tl):PI X tg l (TU tl):=by
 intro pins s σ H R I h;refine ki (hl pins s σ H _ I h) λv d h9=>?_;obtain⟨x,H1,I1,r1,f⟩:=h9;obtain⟨y,e,g,q⟩:=f;subst e;obtain⟨t,rfl⟩:=r1;refine wpAny_pyIter_ascii g ?_;refine⟨d.heap.objs.size,[d.heap.objs.size],_,_,H1,rfl,I1.kept (t':=d.toks) λb o e=>aK _ e,Kc y t _,⟨_,bC _ rfl,rfl,rfl⟩,λb hb=>?_,q⟩;have e:b=d.heap.objs.size:=by simpa using hb
 subst e;kl_no
end
section
variable {κ:Type}[DecidableEq κ]
abbrev uE (kvs:List<|κ×V)(k:κ):Option V:=(kvs.find? λd=>decide<|d.1=k).map (·.2)
abbrev putK (kvs:List<|κ×V)(k:κ)(v:V):List (κ×V):=
 if (kvs.any λd=>decide<|d.1=k)=true then kvs.map (λd=>if d.1=k then(d.1,v)else d)else kvs++[(k,v)]
def uO{p:κ×V}{r:List<|κ×V}{k:κ}(e:p.1=k):uE (p::r) k=some p.2:=by simp[uE,dm,e]
def uN{p:κ×V}{r:List<|κ×V}{k:κ}(e:¬p.1=k):uE (p::r) k=uE r k:=by simp[uE,dm,e]
theorem yh(k:κ):∀kvs:List<|κ×V,(kvs.any λkv=>decide<|kv.1=k)=(uE kvs k).isSome
 | []=>rfl
 | p::r=>by
  rw[eX];by_cases e:p.1=k
  ·dsimp[uO e,aX e,Bool.true_or,isSome_some]
  ·rw[uN e,aY e,Bool.false_or];exact yh k r
def vS(kvs:List<|κ×V)(k:κ)(v:V):(putK kvs k v).length<=kvs.length+1:=by
 unfold putK;split
 ·rw[aH];lia
 ·rw[aO,bB,gE];lia
def xw.GK{o:Option V}{u:be}(r:xw o u):o.isSome=u.isSome:=by
 cases o with
 | none=>cases u with
  | none=>rfl
  | some _=>exact(show False from r).elim
 | some _=>cases u with
  | none=>exact(show False from r).elim
  | some _=>rfl
def KV.val(r:KV kvs vs)(k:κ):xw (uE kvs k) (valueAt vs k):=by
 unfold KV at r
 induction r with
 | nil=>exact True.intro
 | @cons p q ps qs h t g=>
  obtain⟨h1,f⟩:=h;by_cases e:p.1=k
  ·have d:q.1=k:=h1.symm.trans e;have b:valueAt (q::qs) k=some q.2:=by simp[valueAt,dm,d]
   rw[uO e,b];exact f
  ·have d:¬q.1=k:=λz=>e<|h1.trans z;have b:valueAt (q::qs) k=valueAt qs k:=by simp[valueAt,dm,d]
   rw[uN e,b];exact g
def KV.any{kvs:List<|κ×V}{vs:List<|κ×aa}(r:KV kvs vs)(k:κ):(kvs.any λkv=>decide<|kv.1=k)=vs.any λkv=>decide (kv.1=k):=by
 unfold KV at r
 induction r with
 | nil=>rfl
 | cons h t d=>rw[eX,eX,d,h.1]
def KV.repl{kvs:List<|κ×V}{vs:List<|κ×aa}(r:KV kvs vs)(k:κ)(ry:RelV y u) :
  KV (kvs.map λkv=>if kv.1=k then(kv.1,y)else kv) (vs.map λkv=>if kv.1=k then(kv.1,u)else kv):=by
 unfold KV at r ⊢
 induction r with
 | nil=>exact .nil
 | @cons p q ps qs h t f=>
  rw[bP,bP];refine .cons ?_ f;obtain⟨h1,d⟩:=h;by_cases e:p.1=k
  ·rw[bf e,bf<|h1.symm.trans e];exact⟨h1,ry⟩
  ·rw[bu e,bu λz=>e<|h1.trans z];exact⟨h1,d⟩
def KV.put(r:KV kvs vs)(k:κ)(ry:RelV y u):KV (putK kvs k y) (stored vs k u):=by
 unfold putK stored;rw[r.any k];by_cases e:(vs.any λd=>decide<|d.1=k)=true
 ·rw[bf e,bf e];exact r.repl k ry
 ·rw[bu e,bu e];exact Paired.snoc r ⟨rfl,ry⟩
def KV.length{kvs:List<|κ×V}{vs:List<|κ×aa}(r:KV kvs vs):kvs.length=vs.length:=ig r
end
def Je{P:ah}{w:af}{k:Key}(r:RelV (kV k) u):(kO P w).is k u=true:=by
 cases k with
 | inl i=>obtain⟨t,e⟩:=(show ∃t,u=Value.int i t from r);subst e;exact Bv P w i t
 | inr x=>obtain⟨t,e⟩:=(show ∃t,u=Value.str x t from r);subst e;exact Ce P w x t
theorem zN{P:ah}{w:af}:∀{ks:List Key}{us:ar},Vals (ks.map kV) us->ItemsAre (kO P w) ks us
 | [],_,r=>by rw[dO]at r;cases r;exact .nil
 | k::ks,_,r=>by
  rw[bP]at r
  cases r with
  | cons h t=>exact .cons (Je h)<|zN t
meta abbrev KT (H:Hp):List (List Key×V)->List (List Key×aj×aa)->Prop:=Paired λp q=>p.1=q.1/\H q.2.1=some (.tup<|p.1.map kV)/\RelV p.2 q.2.2
def KT.val{H:Hp}(r:KT H kvs xs)(k:List Key):xw (uE kvs k) ((atKey xs k).map (·.2)):=by
 induction r with
 | nil=>exact True.intro
 | @cons p q ps qs h t g=>
  obtain⟨h1,_,f⟩:=h;by_cases e:p.1=k
  ·have d:q.1=k:=h1.symm.trans e;have b:atKey (q::qs) k=some q.2:=by simp[atKey,dm,d]
   rw[uO e,b];exact f
  ·have d:¬q.1=k:=λz=>e<|h1.trans z;have b:atKey (q::qs) k=atKey qs k:=by simp[atKey,dm,d]
   rw[uN e,b];exact g
def KT.repl{H:Hp}{kvs:List<|List Key×V}{xs:List<|List Key×aj×aa}(r:KT H kvs xs)(k:List Key)(ry:RelV y u) :
  KT H (kvs.map λkv=>if kv.1=k then(kv.1,y)else kv) (xs.map<|putAt k u):=by
 induction r with
 | nil=>exact .nil
 | @cons p q ps qs h t g=>
  rw[bP,bP];refine .cons ?_ g;obtain⟨h1,d,f⟩:=h;unfold putAt;by_cases e:p.1=k
  ·rw[bf e,bf<|h1.symm.trans e];exact⟨h1,d,ry⟩
  ·rw[bu e,bu λz=>e<|h1.trans z];exact⟨h1,d,f⟩
def KT.put{H:Hp}(r:KT H kvs xs)(k:List Key)(hb:H b=some (.tup<|k.map kV))(ry:RelV y u) :
  KT H (putK kvs k y) (storedH xs k b u):=by
 have e:(kvs.any λd=>decide<|d.1=k)=(atKey xs k).isSome:=by
  rw[yh,(r.val k).GK,Option.isSome_map]
 unfold putK storedH;rw[e];by_cases q:(atKey xs k).isSome=true
 ·rw[bf q,bf q];exact r.repl k ry
 ·rw[bu q,bu q];exact Paired.snoc r ⟨rfl,hb,ry⟩
def KT.keeps{H H':Hp}(r:KT H kvs xs)(ht:∀b ys,H b=some (.tup ys)->H' b=some (.tup ys)):KT H' kvs xs:=
 Paired.Ph r λ_ _ z=>⟨z.1,ht _ _ z.2.1,z.2.2⟩
section
variable {P:ah}{w:af}{H:Hp}{h:ak}{a:aj}
def NL(ok:sH P w H h)(e:Rd H a u):j6 P w H h a u:=e.ok ok
def Ep{kvs:List<|Key×V}(ok:sH P w H h)(e:Rd H a<|.dK kvs):kvs.length<=sizeLine/\(a == sysModules)=false/\∃vs,KV kvs vs/\h.DictOf (kO P w) a vs:=
 show j6 P w H h a (.dK kvs)from NL ok e
def Sj{kvs:List<|Key×V}(ok:sH P w H h)(e:H a=some (.dK kvs)):kvs.length<=sizeLine/\(a == sysModules)=false/\∃vs,KV kvs vs/\h.DictOf (kO P w) a vs:=Ep ok<|.inl e
def Cv{ks:List Key}(ok:sH P w H h)(e:H a=some (.tup<|ks.map kV)):(tupleKind<|kO P w).is h ks a:=by
 obtain⟨_,d,r,o,h1,f,_,n,g⟩:=(show j6 P w H h a (.tup<|ks.map kV)from ok a _ e);exact⟨o,d.toArray,n,h1,f,g,by simpa using zN r⟩
def Hw{kvs:List<|List Key×V}(ok:sH P w H h)(e:Rd H a<|.dT kvs):kvs.length<=sizeLine/\(a == sysModules)=false /\
  ∃xs,KT H kvs xs/\h.DictOfH (tupleKind<|kO P w) a xs:=by
 obtain⟨z,y,xs,r,o,es,C,h1,k,g,B,f⟩:=(show j6 P w H h a (.dT kvs)from NL ok e);refine⟨z,y,xs,r,o,es,C,h1,k,g,B,λx hx=>?_,f⟩;have all:∀{l:List<|List Key×V} {m:List<|List Key×aj×aa},KT H l m->∀x∈m,(tupleKind<|kO P w).is h x.1 x.2.1:=by
  intro l m q
  induction q with
  | nil=>intro x hx;exact nomatch hx
  | @cons p q ps qs d t j=>
   intro x hx
   rcases bh.mp hx with e|hx
   ·subst e;exact Cv ok (by rw[<- d.1];exact d.2.1)
   ·exact j x hx
 exact all r x hx
def Sa{kvs:List<|List Key×V}(ok:sH P w H h)(e:H a=some (.dT kvs)):kvs.length<=sizeLine/\(a == sysModules)=false /\
  ∃xs,KT H kvs xs/\h.DictOfH (tupleKind<|kO P w) a xs:=Hw ok<|.inl e
end
abbrev CY (H:Hp)(a:aj)(y:V)(r:Option V):Prop:=
 (∃kvs k,Rd H a (.dK kvs)/\y=kV k/\r=uE kvs k)\/∃kvs k b,Rd H a (.dT kvs)/\y=.ref b/\H b=some (.tup<|k.map kV)/\r=uE kvs k
abbrev G4 (H:Hp)(a:aj)(y v:V)(H':Hp):Prop:=
 (∃kvs k,H a=some (.dK kvs)/\y=kV k/\kvs.length<sizeLine/\H'=upd H a (.dK<|putK kvs k v)) \/
 ∃kvs k b,H a=some (.dT kvs)/\y=.ref b/\H b=some (.tup<|k.map kV)/\kvs.length<sizeLine/\H'=upd H a (.dT<|putK kvs k v)
theorem CY.k{H:Hp}{a:aj}{k:Key}(e:H a=some (.dK kvs)):CY H a (kV k) (uE kvs k):=.inl ⟨kvs,k,.inl e,rfl,rfl⟩
theorem G4.k{H:Hp}{a:aj}{kvs:List<|Key×V}{k:Key}{v:V}(e:H a=some (.dK kvs))(hl:kvs.length<sizeLine):G4 H a (kV k) v (upd H a<|.dK<|putK kvs k v):=.inl ⟨kvs,k,e,rfl,hl,rfl⟩
section
variable {X:Cx}{pins:bt}{σ:St}{H:Hp}{s:aA}{a:aj}{y v:V}{u:aa}{o:Option V}{A:au}{E:aa->aA->Prop}
def Inv.big(I:Inv X pins σ H s):sysModules<s.heap.objs.size:=by
 have h:mainGlobals<s.heap.objs.size:=(I.mod.glob.keeps I.bk).lt;exact Nat.lt_trans ⋯ h
def Gr{Q:aa->aA->Prop}(hu:A.units+1<cLine)(I:Inv X pins σ H s)(g:CY H a y<|some v)(ry:RelV y u)(h:∀w' s',Inv X pins σ H s'->RelV v w'->Q w' s') :
  wpAny (model X.prog X.w) A (getItem (.ref a) u) Q E s:=by
 rcases g with⟨kvs,k,e,m,l⟩|⟨kvs,k,b,e,m,q,l⟩
 ·subst m;obtain⟨z,hd,vs,f,dd⟩:=Ep I.hok e;obtain⟨w',hw,d⟩:=xw.some_of (v:=v) (o:=valueAt vs k) (by rw[l];exact f.val k);exact wpAny_getItem_of (Je ry) dd.mapOf hw (h w' _ (I.tok _) d)
 ·subst m
  cases(show u=Value.ref b from ry)
  obtain⟨z,hd,xs,f,dd⟩:=Hw I.hok e;obtain⟨w',hw,d⟩:=xw.some_of (v:=v) (o:=(atKey xs k).map (·.2)) (by rw[l];exact f.val k);obtain⟨p,hp,j⟩:=aV.mp hw;refine wpAny_getItem_heap (tupleKind_room_in1 hu) (Cv I.hok q) dd hp ?_;rw[j];exact h w' _ (I.tok _) d
def EA{h':ak}{t':Nat}{ob:HO}(I:Inv X pins σ H s)(mu:R_<|H a)(hs:Heap.SameBut a s.heap h')(he:∃q,h'.get? a=some q)(new:j6 X.prog X.w (upd H a ob) h' a ob) :
  Inv X pins σ (upd H a ob) { s with heap:=h',toks:=t' }:=
 I.write (x:=a) (e:=a) mu (.inl rfl) (λb q hb z=>(hs.2 b hb).trans z) he new
def P4{P:ah}{w:af}{H':Hp}{h':ak}{kvs:List<|Key×V}(z:kvs.length<=sizeLine)(hd:(a == sysModules)=false)(rel:KV kvs vs)(dd:h'.DictOf (kO P w) a vs) :
  j6 P w H' h' a (.dK kvs):=⟨z,hd,vs,rel,dd⟩
end
section
variable {X:Cx}{pins:bt}{σ:St}{H:Hp}{s:aA}{a:aj}{kvs:List (Key×V)}{A:au}{E:aa->aA->Prop}
def RC{Q:aa->aA->Prop}(I:Inv X pins σ H s)(e:Rd H a<|.dK kvs)(h:∀t s',Inv X pins σ H s'->Q (.int kvs.length t) s'):wpAny (model X.prog X.w) A (call (.builtin "len") [.ref a]) Q E s:=by
 obtain⟨z,hd,vs,d,dd⟩:=Ep I.hok e;refine call_len_dict hd dd (by rw[<- d.length];rw[cO]at z;lia) ?_;rw[<- d.length];exact h _ _<|I.tok _
end
def Br{H:Hp}{s:aA}{a:aj}(I:Inv X pins σ H s)(g:CY H a y o):s.TypeIs (.ref a) "dict" := by
 rcases g with⟨kvs,k,e,_,_⟩|⟨kvs,k,b,e,_,_,_⟩
 ·obtain⟨_,_,vs,_,dd⟩:=Ep I.hok e;exact dd.typeIs
 ·obtain⟨_,_,xs,_,dd⟩:=Hw I.hok e;exact dd.typeIs
def Iq{P:ah}{w:af}{H:Hp}(h:ak)(hb:sysModules<h.objs.size):j6 P w H (h.push { cls:=.type "dict",data:=.dict #[]}) h.objs.size (.dK []):=
 ⟨cj _,gH.mpr<|cQ<|br hb,[],.nil,Heap.DictOf.new h⟩
structure M1 (X:Cx)(o:aC)(m:Str)(apos:Pos)(e:aC)(cpos:Pos):Prop where
 base:attributeBase o m X.env (eval o X.env)=eval o X.env
 few:((backTo cpos<|starEach [e] X.env).all (λx=>!x.1) && (backToKw cpos<|keywordEach [] X.env).all (λx=>x.1.isSome)
  && decide (([e]:List aC).length+([]:List Keyword).length+(if ([]:List Keyword).isEmpty then 0 else 1)<30))=true
 line:(apos.endLine == cpos.line)=true
 trees:backTo cpos (starEach [e] X.env)=[(false,eval e X.env)]
structure M2 (X:Cx)(o:aC)(m:Str)(apos:Pos)(e f:aC)(cpos:Pos):Prop where
 base:attributeBase o m X.env (eval o X.env)=eval o X.env
 few:((backTo cpos<|starEach [e,f] X.env).all (λx=>!x.1) && (backToKw cpos<|keywordEach [] X.env).all (λx=>x.1.isSome)
  && decide (([e,f]:List aC).length+([]:List Keyword).length+(if ([]:List Keyword).isEmpty then 0 else 1)<30))=true
 line:(apos.endLine == cpos.line)=true
 trees:backTo cpos (starEach [e,f] X.env)=[(false,eval e X.env),(false,eval f X.env)]
meta abbrev Hg:=ae×ae
abbrev Ny (x:ae):Int:=reduceHash<|Builtin.Tuple.tupleHashOf<|x.map hashInt
abbrev Rh (k:Hg):Int:=reduceHash<|Builtin.Tuple.tupleHashOf [Ny k.1,Ny k.2]
abbrev Vp (x:(Hg×aj×aa)):DictEntry:=⟨Rh x.1,.ref x.2.1,x.2.2⟩
abbrev Ui (a:aj)(xs:List<|Hg×aj×aa)(h:ak):Prop:=(a == sysModules)=false/\xs.length<=sizeLine/\∃o es d,h.get? a=some o/\o.ExactDict/\o.data=.dict es d/\es.toList=xs.map Vp/\(xs.map (·.1)).Nodup
abbrev AZ (H:Hp)(b:aj)(k:Hg):Prop:=∃r1 r2,H b=some (.tup [.ref r1,.ref r2])/\H r1=some (.tup<|k.1.map V.int)/\H r2=some (.tup<|k.2.map V.int)
section
variable {X:Cx}
def MQ(hu:X.A.units+1<cLine):PK X (λx y H Q=>∃a v,x=.ref a/\CY H a y (some v)/\Q v H):=by
 intro j d pins s σ H x y v u Q I rx ry h hs;obtain⟨a,z,rfl,g,q⟩:=h
 cases rx
 have t:=Br I g;unfold subscriptTail;refine aI ?_;rw[getitemInPython_of_ne t.not_modules];refine aI<|wpAny_specialOf t PySem.F.slot_dict_getitem.lookup ?_;have f:wpAny (model X.prog X.w) X.A (subscripted d false (.ref a) u) (λr k=>wpAny (model X.prog X.w) X.A (letTemporaryGo j (.ref a) r >>= λ_=>pure r) (EP X pins σ Q) X.xe k) X.xe s:=by
  rw[hs];exact wpAny_operating<|Gr hu I g ry λB C I3 m=>aI<|wpAny_letTemporaryGo<|aM ⟨z,H,I3,m,q⟩
 first
  | exact aM (aI f)
  | exact aI (aM<|aI f)
  | exact aI f
end
abbrev C0 (e:aj)(h:ak):Prop:=∃o vs,h.get? e=some o/\o.data=.fields vs/\vs[2]?=some .none/\o.dict=none
abbrev jh (e:aj){α:Type}(m:Sem α):Prop:=∀(M:Model) (d:PySem.Ctx) (Q:α->Pos->aA->Prop) (E:aa->Pos->aA->Prop) (p:Pos) (s:aA),Sem.wp M d m Q E p s->C0 e s.heap->Sem.wp M d m (λa p s=>Q a p s/\C0 e s.heap) (λv p s=>E v p s/\C0 e s.heap) p s
section
variable {e:aj}{α β:Type}
def jh.bind{m:Sem α}{f:α->Sem β}(h1:jh e m)(h2:∀a,jh e<|f a):jh e (m >>= f):=by
 intro M d Q E p s h c;rw[Sem.wp_bind']at h ⊢;exact Sem.wp_mono M d m (λa g s' z=>h2 a M d Q E g s' z.1 z.2) (λ_ _ _ z=>z) p s<|h1 M d _ _ p s h c
theorem jh.pure(a:α):jh e (pure a:Sem α):=λM d Q E p s h c=>by rw[Sem.wp_pure']at h ⊢;exact⟨h,c⟩
def jh.Lk(w:String):jh e (PySem.unsupported w:Sem α):=λM d Q E p s h c=>by
 have h:Sem.wp M d (.unsupported w:Sem α) Q E p s:=h;rw[Sem.wp_unsupported]at h;exact h.elim
def jh.load(a:aj):jh e (PySem.load a):=λM d Q E p s h c=>by
 have h:Sem.wp M d (.load a none .pure) Q E p s:=h;show Sem.wp M d (.load a none .pure) _ _ p s;rw[Sem.wp_load]at h ⊢;obtain⟨o,f,h⟩:=h;rw[gz]at h;exact⟨o,f,by rw[gz];exact⟨h,c⟩⟩
def C0.update{h:ak}{a:aj}{f:Obj->Obj}(c:C0 e h)(hf:∀o vs,o.data=.fields vs->vs[2]?=some .none->∃ws,(f o).data=.fields ws/\ws[2]?=some .none/\(f o).dict=o.dict):C0 e (h.update a f):=by
 obtain⟨o,vs,h1,g,k,j⟩:=c;by_cases z:a=e
 ·subst z;obtain⟨ws,d,m,q⟩:=hf o vs g k;exact⟨f o,ws,dU f h1<|Obj.isFreed_of_fields d,d,m,q.trans j⟩
 ·exact⟨o,vs,by rw[cD _ _ z];exact h1,g,k,j⟩
def jh.update(a:aj)(f:Obj->Obj)(hf:∀o vs,o.data=.fields vs->vs[2]?=some .none->∃ws,(f o).data=.fields ws/\ws[2]?=some .none/\(f o).dict=o.dict):jh e (PySem.update a f):=λM d Q E p s h c=>by
 have h:Sem.wp M d (.update a none f .pure) Q E p s:=h;show Sem.wp M d (.update a none f .pure) _ _ p s;rw[Sem.wp_update]at h ⊢;obtain⟨g,h⟩:=h;rw[gz]at h;exact⟨g,by rw[gz];exact⟨h,c.update hf⟩⟩
def jh.alloc(o:Obj):jh e (PySem.alloc o):=λM d Q E p s h c=>by
 have h:Sem.wp M d (.alloc o .pure) Q E p s:=h;show Sem.wp M d (.alloc o .pure) _ _ p s;rw[Sem.wp_alloc,gz]at h ⊢;obtain⟨ob,vs,h1,f,j,g⟩:=c;exact⟨h,ob,vs,aK _ h1,f,j,g⟩
def jh.stack:jh e PySem.stack:=λM d Q E p s h c=>by
 have h:Sem.wp M d (.stack .pure) Q E p s:=h;show Sem.wp M d (.stack .pure) _ _ p s;rw[Sem.wp_stack,gz]at h ⊢;exact⟨h,c⟩
def jh.ite{c:Prop}[Decidable c]{a b:Sem α}(h1:jh e a)(h2:jh e b):jh e (if c then a else b):=by
 split
 ·exact h1
 ·exact h2
def jh.field(v:aa)(i:Nat):jh e (PySem.field v i):=by
 unfold PySem.field PySem.fieldsOf;refine jh.bind ?_ λvs=>?_
 ·split
  ·refine jh.bind (jh.load _) λo=>?_;split
   ·exact jh.pure _
   ·exact jh.Lk _
  ·exact jh.Lk _
 ·split
  ·exact jh.pure _
  ·exact jh.Lk _
def jh.setField(v x:aa)(i:Nat)(hi:i≠2):jh e (PySem.setField v i x):=by
 unfold PySem.setField PySem.updateField;split
 ·refine jh.bind (jh.load _) λo=>?_;split
  ·refine jh.ite (jh.update _ _ λo vs h1 d=>⟨_,Obj.data_mapFields h1 _,?_,?_⟩) (jh.Lk _)
   ·rw[Array.getElem?_setIfInBounds_ne hi];exact d
   ·unfold Obj.mapFields;split<;>rfl
  ·exact jh.Lk _
 ·exact jh.Lk _
def jh.frameEnvs:jh e PySem.frameEnvs:=by
 unfold PySem.frameEnvs;exact jh.bind jh.stack λ_=>jh.pure _
def jh.behind(env:Env)(outer:List Env):jh e (behindIsImport env outer):=by
 unfold behindIsImport;refine jh.ite (jh.pure _)<|jh.ite (jh.pure _)<|jh.bind (jh.field _ _) λ_=>jh.pure _
def jh.under:jh e underTheClaimsCaller:=by
 unfold underTheClaimsCaller;exact jh.bind jh.stack λ_=>jh.pure _
def jh.kept(env:Env)(b:Bool)(l:List Env):jh e (keptBack env b l):=by
 unfold keptBack;split
 ·refine jh.ite (jh.pure _) (jh.bind jh.under λ_=>jh.pure _)
 ·exact jh.pure _
theorem jh.ready:∀(l:List Env),jh e (readyFrames l)
 | []=>jh.pure _
 | env::outer=>by
  unfold readyFrames;split
  ·refine jh.bind (jh.load _) λo=>?_;refine jh.ite (jh.pure _) ?_;refine jh.bind (jh.behind _ _) λ_=>jh.bind (jh.kept _ _ _) λ_=>jh.bind (jh.update _ _ λo vs h1 d=>⟨vs,h1,d,rfl⟩) λ_=>jh.ready outer
  ·exact jh.Lk _
def jh.frameOf(env:Env):jh e (PySem.frameOf env):=by
 unfold PySem.frameOf;refine jh.bind jh.frameEnvs λl=>jh.bind ?_ λ_=>?_
 ·unfold frameObject;split
  ·exact jh.pure _
  ·exact jh.bind (jh.ready _) λ_=>jh.pure _
 ·split
  ·exact jh.pure _
  ·exact jh.Lk _
def jh.place(f:aj)(b:Bool):jh e (entryPlaceOf f b):=by
 unfold entryPlaceOf;refine jh.bind jh.stack λ_=>?_;split
 ·exact jh.pure _
 ·exact jh.pure _
def jh.entry(a b c d f:aa)(l:ar):jh e (EntryCells.newEntry a b c d f l):=by
 unfold EntryCells.newEntry newFields newObj
 repeat (first|exact jh.pure _|exact jh.Lk _|refine jh.bind (jh.alloc _) λ_=>?_|refine jh.bind (jh.Lk _) λ_=>?_|refine jh.ite ?_ ?_|(refine jh.bind ?_ λ_=>?_))
def jh.flight(v:aa)(f:Option aj):jh e (setFlight v f):=by
 unfold setFlight;refine jh.bind (jh.field _ _) λ_=>jh.ite (jh.setField _ _ _ ⋯)<|jh.pure _
def jh.note(v:aa)(env:Env):jh e (noteFrame v env):=by
 unfold noteFrame;split
 ·refine jh.bind (jh.field _ _) λh=>jh.ite ?_ ?_
  ·refine jh.bind (jh.field _ _) λ_=>jh.ite (jh.pure _) ?_;refine jh.bind (jh.setField _ _ _ ⋯) λ_=>jh.bind (jh.frameOf _) λ_=>jh.bind (jh.place _ _) λ_=>jh.bind (jh.entry _ _ _ _ _ _) λ_=>jh.setField _ _ _ ⋯
  ·refine jh.bind (jh.frameOf _) λ_=>jh.bind (jh.place _ _) λ_=>jh.bind (jh.entry _ _ _ _ _ _) λ_=>jh.setField _ _ _ ⋯
 ·exact jh.Lk _
def jh.leave(v:aa)(env:Env):jh e (leaving env v):=by
 unfold leaving;exact jh.bind (jh.note _ _) λ_=>jh.flight _ _
def jh.any{m:Sem α}{A:au}{Q:α->aA->Prop}{E:aa->aA->Prop}{s:aA}(k:jh e m)(h:wpAny M A m Q E s)(c:C0 e s.heap):wpAny M A m (λa s'=>Q a s'/\C0 e s'.heap) (λv s'=>E v s'/\C0 e s'.heap) s:=
 λf p d=>k M f _ _ p s (h f p d) c
end
def j6.here{P:ah}{w:af}{H:Hp}{h:ak}{a:aj}(x:j6 P w H h a o):∃ob,h.get? a=some ob:=by
 cases o with
 | lst xs=>obtain⟨_,_,_,_,e⟩:=x;exact⟨_,e⟩
 | tup xs=>obtain⟨_,_,_,p⟩:=x;obtain⟨o,e,_⟩:=p;exact⟨_,e⟩
 | dK kvs=>obtain⟨_,_,_,_,o,_,_,e,_⟩:=x;exact⟨_,e⟩
 | dT kvs=>obtain⟨_,_,_,_,o,_,_,e,_⟩:=x;exact⟨_,e⟩
 | set S n=>obtain⟨o,_,_,_,e,_⟩:=x;exact⟨_,e⟩
 | ins C dx fs=>obtain⟨_,_,_,e,_⟩:=x;exact⟨_,e⟩
 | own y=>exact x
 | xd fs=>obtain⟨_,⟨_,_,_,e,_⟩,_⟩:=x;exact⟨_,e⟩
 | rng lo hi=>obtain⟨_,_,_,e⟩:=x;exact⟨_,e⟩
 | frz ob u=>obtain⟨e,_⟩:=x;exact⟨_,e⟩
 | tbl ps=>exact⟨_,(show h.get? a=some _ from x)⟩
 | met f y=>exact⟨_,(show h.get? a=some _ from x)⟩
 | ext d=>obtain⟨_,⟨o,e⟩,_⟩:=x;exact⟨_,e⟩
structure Fly (l:List Env)(g:ak)(pn:bt)(H:Hp)(e:aj)(cls:aa)(h:ak):Prop where
 ex:∃(B:ak) (a0:aa),Heap.FlyingW B l e cls a0 h/\(∀a u,H a=some u->∃o,B.get? a=some o)/\(∀b o,g.get? b=some o->b∉frs l->∃o',B.get? b=some o')/\(∀p∈pn,∃o',B.get? p.1=some o')/\C0 e h
structure Made (X:Cx)(H:Hp)(e:aj)(cls:aa)(g:ak)(h:ak):Prop where
 ex:∃(g':ak) (vs:ar),Heap.MadeExcOf g' h e cls vs/\g'.FunFrames X.base X.stack/\(∀a u,H a=some u->∃o,g'.get? a=some o)/\(∀b o,g.get? b=some o->∃o',g'.get? b=some o')/\(∀p∈X.pn,∃o',g'.get? p.1=some o')
def EE{g:ak}{cls:aa}(M:Heap.MadeExcOf g h e cls vs):C0 e h:=by
 obtain⟨t,d,_⟩:=M.there;exact⟨_,_,d,rfl,rfl,rfl⟩
abbrev vp (X:Cx)(H:Hp)(e:aj)(cls:aa)(s':aA):Prop:=Made X H e cls X.s₀.heap s'.heap\/Fly X.stack X.s₀.heap X.pn H e cls s'.heap
section
variable {X:Cx}{pins:bt}{σ:L2.St}{H:Hp}{s':aA}{e:aj}{cls:aa}
def xF(I:Inv X pins σ H s')(hex:X.ex=[]){B:ak}(k1:B.StaysIn s'.heap)(k2:B.StaysIn h')(up:s'.heap.UpToSlots h')(c1:∀a u,H a=some u->∃o,B.get? a=some o)(c2:∀b o,X.s₀.heap.get? b=some o->b∉X.fs->∃o',B.get? b=some o') :
  Un X.fs [] X.H₀ H X.s₀.heap h'/\sH X.prog X.w H h':=by
 have nx:∀b:aj,b∉X.ex:=λb z=>by rw[hex]at z;cases z
 have f:∀b o o',B.get? b=some o'->s'.heap.get? b=some o->h'.get? b=some o:=λb o o' d es=>by
  have:=k1 b o' d;rw[es]at this;cases this;exact k2 b o d
 have slot:∀b o,X.s₀.heap.get? b=some o->X.H₀ b=none->b∈X.fs->∃g,h'.get? b=some { o with slots:=g }:=λb o q n hb=>by
  obtain⟨g,e1⟩:=I.base.slot b o q n hb<|nx b;obtain⟨_,C,k,t⟩:=I.ok.qo.mem hb;rw[q]at k;cases k;obtain⟨j,e2⟩:=up b _ e1 t;exact⟨j,e2⟩
 refine⟨⟨λb o q n hb _=>?_,λb o q n hb _=>slot b o q n hb,λb o q n _=>I.base.free b o q n<|nx b,λb o q _=>?_,I.base.tups,I.base.frzs,I.base.tbls⟩,λa u m=>?_⟩
 ·obtain⟨o',d⟩:=c2 b o q hb;exact f b o o' d (I.base.keep b o q n hb<|nx b)
 ·by_cases hb:b∈X.fs
  ·obtain⟨g,z⟩:=slot b o q (I.ok.frf b hb) hb;exact⟨_,z⟩
  ·obtain⟨o',d⟩:=c2 b o q hb;exact⟨o',k2 b o' d⟩
 ·refine(I.hok a u m).stay (λb v hb q=>?_) (λ_ q=>q) λ_ _ q=>q
  rcases hb with z|z
  ·subst z;obtain⟨o',d⟩:=c1 _ u m;exact f _ v o' d q
  ·obtain⟨o',d⟩:=c1 b _ z;exact f b v o' d q
def CC(I:Inv X pins σ H s')(hst:X.stack=X.env::X.outer)(hf:X.env.frame=some X.env.locals)(hex:X.ex=[])(R:vp X H e cls s'){Q:aA->Prop}{E:aa->aA->Prop}
  (hQ:∀h',Un X.fs [] X.H₀ H X.s₀.heap h'->sH X.prog X.w H h'->Fly X.outer X.s₀.heap [] H e cls h'->Q { s' with heap:=h' }):wpAny (model X.prog X.w) X.A (leaving X.env<|.ref e) (λ_ s''=>Q s'') E s':=by
 have m:X.A.frames=some (X.env::X.outer):=by rw[<- hst];exact I.ok.frames
 have J:∀b o,X.s₀.heap.get? b=some o->b∉X.fs->b∉frs (X.env::X.outer):=λb o q hb z=>by
  unfold frs at z;rw[eB,hf]at z
  rcases bh.mp z with z|z
  ·rw[z]at q;exact absurd (bH (aS q) I.ok.above) (cK _)
  ·exact hb z
 rcases R with⟨j,vs,M,k,K,N,_⟩|⟨B,a0,F,c1,c2,_,k0⟩
 ·
  rw[hst]at k;have C:∀env∈(X.env::X.outer),∀b,env.frame=some b->b∈frs (X.env::X.outer):=λenv L b hb=>fM.mpr ⟨env,L,hb⟩;refine cE (jh.any (e:=e) (jh.leave _ _) (wpAny_leaves_madeW (Q:=λ_ s''=>∃h' t,s''={ s' with heap:=h' }/\Heap.FlyingW (PySem.W.hideAll j<|frs (X.env::X.outer)) X.outer e cls (.ref t) h'/\s'.heap.UpToSlots h') (E:=λ_ _=>False) (base:=PySem.W.hideAll j<|frs (X.env::X.outer)) m hf (λb o q=>eS _ q) (PySem.W.funFrames_hide k C) M λh' t d O P f=>⟨h',t,rfl,d,f⟩)<|EE M) (λ_ s'' z=>?_) λ_ _ z=>z.1.elim;obtain⟨⟨h',t,rfl,d,f⟩,k0⟩:=z;have k1:(PySem.W.hideAll j<|frs (X.env::X.outer)).StaysIn s'.heap:=λb o q=>M.keeps b o<|eS _ q;have c1:∀a u,H a=some u->∃o,(PySem.W.hideAll j<|frs (X.env::X.outer)).get? a=some o:=λa u G=>by
   obtain⟨o,q⟩:=K a u G;refine⟨o,dJ _ q λz=>?_⟩;rw[<- hst]at z;rw[I.wW a z]at G;cases G
  have c2:∀b o,X.s₀.heap.get? b=some o->b∉X.fs->∃o',(PySem.W.hideAll j<|frs (X.env::X.outer)).get? b=some o':=λb o q hb=>by
   obtain⟨o',q'⟩:=N b o q;exact⟨o',dJ _ q'<|J b o q hb⟩
  obtain⟨un,hok⟩:=xF I hex k1 d.1 f c1 c2;exact hQ h' un hok ⟨_,_,d,c1,λb o q hb=>c2 b o q hb,λp hp=>absurd hp<|by simp,k0⟩
 ·rw[hst]at F c2;refine cE (jh.any (e:=e) (jh.leave _ _) (wpAny_leaves_onW (Q:=λ_ s''=>∃h',s''={ s' with heap:=h' }/\Heap.FlyingW B X.outer e cls a0 h'/\s'.heap.UpToSlots h') (E:=λ_ _=>False) m hf F λh' d f=>⟨h',rfl,d,f⟩) k0) (λ_ s'' z=>?_) λ_ _ z=>z.1.elim;obtain⟨⟨h',rfl,d,f⟩,k0'⟩:=z;have g:∀b o,X.s₀.heap.get? b=some o->b∉X.fs->∃o',B.get? b=some o':=λb o q hb=>c2 b o q<|J b o q hb;obtain⟨un,hok⟩:=xF I hex F.1 d.1 f c1 g;exact hQ h' un hok ⟨_,_,d,c1,g,λp hp=>absurd hp<|by simp,k0'⟩
end
abbrev Hj (P:ah)(w:af):K_:=λouter H s E e d=>∃f cls H',e=.ref f/\d.os=s.os/\AllBare d.gens/\Un (frs outer) [] H H' s.heap d.heap/\sH P w H' d.heap/\Fly outer s.heap [] H' f cls d.heap/\E cls none H'
section
variable {P:ah}{w:af}{K:aq}{mg:Str->be}{base:ak}{N:am}{qual:Str}{scope:Scope}{f:aj}{cd:aa}{A:au}{outer:List Env}{s:aA}{H:Hp}{E:XK}
def GP{H':Hp}{cls:aa}(I:Inv (uP (Hj P w) P w K mg base N qual scope f cd A outer s H E) pins σ' H' s')
  (hf:(envOfC qual scope s.heap.objs.size f cd).frame=some (envOfC qual scope s.heap.objs.size f cd).locals)
  (R:vp (uP (Hj P w) P w K mg base N qual scope f cd A outer s H E) H' ea cls s') (hE:E cls none H'):(uP (Hj P w) P w K mg base N qual scope f cd A outer s H E).xe (.ref ea) s':=by
 refine CC I rfl hf rfl R (Q:=λd=>Hj P w outer H s E (.ref ea) d) λh' un hok fl=>?_;exact⟨ea,cls,H',rfl,I.os,I.bare,un,hok,fl,hE⟩
abbrev EX (X:Cx):XK:=λcls _ H'=>X.ex=[]/\∀pins d s' e,Inv X pins d H' s'->vp X H' e cls s'->X.xe (.ref e) s'
def Il{X:Cx}(hP:X.prog=P)(hw:X.w=w):Passes (Hj P w) X (EX X):=by
 intro pins σ H s e s' I ⟨G,cls,H',m,os,bare,un,hok,⟨B,a0,F,c1,c2,_,k0⟩,j⟩;subst m hP hw;obtain⟨J,g,d,t,f⟩:=s';obtain rfl:f=s.os:=os;refine j.2 pins σ _ G (I.call (h':=J) (g':=g) (d':=d) (t':=t) (ch:=[]) un hok bare λb z=>absurd z<|by simp) (.inr ⟨B,a0,F,c1,λb o q hb=>?_,λp hp=>?_,k0⟩)
 ·obtain⟨o',q'⟩:=I.base.there b o q (by rw[j.1];simp);exact c2 b o' q' hb
 ·obtain⟨q,_,C,k,_⟩:=I.pin p<|cC _ hp;exact c2 p.1 _ q λz=>(bh.mp<|I.u7 _ z).elim C k
abbrev PC (X:Cx)(C:aj)(t:TA):TS:=λ_ σ H=>t σ H λvs H'=>vs.length<=sizeLine/\EX X (.ref C) none H'
def Jl{X:Cx}{x:Str}{t:TA}(O:OwnCls x C bmB newId X.mg X.base)(FB:ExcBaseFacts B newId initId bmB)(hh:X.A.handled=none)(ha:PA X (e::es) t)(hg:Gl X x:=by rfl)
  (hs:starEach (e::es) X.env=(false,eval e X.env)::starEach es X.env:=by rfl) (hplain:(backTo cpos<|starEach es X.env).any (·.1)=false:=by rfl) (hd:(x == ("__debug__" : Str))=false:=by decide) :
  PS X (.Raise (some<|.Call (.Name x np) (e::es) [] cpos) none pos) (PC X C t):=by
 kst_p;obtain⟨tl,N,nm,q,bs,hdct,sn,sub,ab,col,dd,k0,k1,k2,k3,k5,mN,J,F,g,T⟩:=O.obj;refine wpAny_Raise_call_subU (C:=C) (nm:=nm) (q:=q) (N:=N) (bs:=bs) (bm:=tl) (hdct:=hdct) (sn:=sn) (sub:=sub) (ab:=ab) (col:=col) (dd:=dd) (k0:=k0) (k1:=k1) (k2:=k2) (k3:=k3) (k5:=k5)
  FB FB.hasB FB (mN:=mN) (T.hasType FB.hasBase) hh (by rw[hs];show(false || (backTo cpos<|starEach es X.env).any (·.1))=false;rw[hplain];rfl) g (sf I hg O.bound ⟨rfl,?_⟩ hd)
 have m:=ha cpos pins s σ H _ I h;rw[hs]at m ⊢;refine Calls.evalArgs_plain<|ki m λus f ⟨vs,H2,d,r2,G,j,z⟩=>?_;refine⟨rfl,by rw[<- r2.length];exact G,d.bk _ _ J,F.keeps d.bk,T.keeps d.bk,λh' k M=>?_⟩;refine z pins σ { f with heap:=h' } k ?_ (.inl ⟨f.heap,us,M,d.stack,λa u k=>?_,λb o q=>?_,λp hp=>⟨_,(d.pin p<|cC _ hp).1⟩⟩)
 ·exact d.kept (t':=f.toks) M.keeps
 ·exact(d.hok a u k).here
 ·exact d.base.there b o q<|by rw[j];simp
end
inductive FParts (X:Cx):List aC->List (Str ⊕ TE)->Prop
 | nil:FParts X [] []
 | txt {x:Str} {j pos} {es:List aC} {ps:List<|Str ⊕ TE} (h:FParts X es ps):FParts X (.Constant (.str x) j pos::es) (.inl x::ps)
 | val {e:aC} {pos:Pos} {t:TE} {es:List aC} {ps:List<|Str ⊕ TE} (he:PE X e t) (h:FParts X es ps):FParts X (.FormattedValue e (-1) none pos::es) (.inr t::ps)
abbrev Cx.uo (X:Cx)(pn':bt)(xe':aa->aA->Prop):Cx:={ X with xe:=xe',pn:=pn' }
abbrev xu:HO:=.ext λ_=>True
abbrev Cx.hand (X:Cx)(pn':bt)(e:aj)(oe:Obj):Cx:={ X with A:=X.A.mark<|some<|.ref e,calm:=false,xe:=λ_ _=>False,pn:=pn',H₀:=upd X.H₀ e<|.frz oe xu}
structure XO (C:aj)(o:Obj):Prop where
 cls:o.cls=.ref C
 dict:o.dict=none
 ctx:∃vs,o.data=.fields vs/\vs[2]?=some .none
structure Fr0 (X:Cx)(e:aj):Prop where
 no:∀o,X.s₀.heap.get? e≠some o
 tup:∀xs,X.H₀ e≠some (.tup xs)
 frz:∀o u,X.H₀ e≠some (.frz o u)
 tbl:∀ps,X.H₀ e≠some (.tbl ps)
section
variable {X:Cx}{pins:bt}{σ:L2.St}{H:Hp}{s':aA}{e:aj}{cls:aa}
def Gz(I:Inv X pins σ H s')(hst:X.stack=X.env::X.outer)(hf:X.env.frame=some X.env.locals)(R:vp X H e cls s'){Q:Unit->aA->Prop}{E:aa->aA->Prop}
  (hQ:∀h' B a0,Heap.HeldW B (X.env::X.outer) e cls a0 X.env.locals h'->B.StaysIn s'.heap->s'.heap.UpToSlots h'->(∀a u,H a=some u->∃o,B.get? a=some o)->(∀b o,X.s₀.heap.get? b=some o->b∉X.fs->∃o',B.get? b=some o')->(∀p∈X.pn,∃o',B.get? p.1=some o')->C0 e h'->Q Unit.unit { s' with heap:=h' }) :
  wpAny (model X.prog X.w) X.A (noteFrame (.ref e) X.env) Q E s':=by
 have m:X.A.frames=some (X.env::X.outer):=by rw[<- hst];exact I.ok.frames
 have K:∀b o,X.s₀.heap.get? b=some o->b∉X.fs->b∉frs (X.env::X.outer):=λb o q hb z=>by
  unfold frs at z;rw[eB,hf]at z
  rcases bh.mp z with z|z
  ·rw[z]at q;exact absurd (bH (aS q) I.ok.above) (cK _)
  ·exact hb z
 rcases R with⟨j,vs,M,k,N,Z,m3⟩|⟨B,a0,F,c1,c2,c3,k0⟩
 ·rw[hst]at k;have G:∀env∈(X.env::X.outer),∀b,env.frame=some b->b∈frs (X.env::X.outer):=λenv C b hb=>fM.mpr ⟨env,C,hb⟩;have hl:=PySem.W.funFrames_hide k G;obtain⟨t,C,P,ht⟩:=M.there;have L:(PySem.W.hideAll j<|frs (X.env::X.outer)).get? e=none:=by
   cases hq:(PySem.W.hideAll j<|frs (X.env::X.outer)).get? e with
   | none=>rfl
   | some o'=>have:=eS _ hq;rw[M.new]at this;cases this
  have k1:(PySem.W.hideAll j<|frs (X.env::X.outer)).StaysIn s'.heap:=λb o q=>M.keeps b o<|eS _ q;have go:wpAny (model X.prog X.w) X.A (noteFrame (.ref e) X.env) (λ_ d=>∃h',d={ s' with heap:=h' }/\Heap.HeldW (PySem.W.hideAll j<|frs (X.env::X.outer)) (X.env::X.outer) e cls (.ref t) X.env.locals h'/\s'.heap.UpToSlots h') (λ_ _=>False) s':=by
   unfold noteFrame;dsimp[hf];refine aI<|d8 C rfl (x:=.none) rfl ?_;rw[bu ⋯];refine wpAny_entryW (base:=PySem.W.hideAll j<|frs (X.env::X.outer)) (a0:=.ref t) m (hl.of_keeps λb o hb _=>⟨o,M.keeps b o hb,rfl⟩) hf C k1 L rfl (by simp) rfl λh' O=>?_;obtain⟨f,U,x3,g⟩:=O;exact⟨h',rfl,⟨f,L,U,x3⟩,g⟩
  refine cE (jh.any (e:=e) (jh.note _ _) go<|EE M) (λ_ d z=>?_) λ_ _ z=>z.1.elim;obtain⟨⟨h',rfl,f,g⟩,k0⟩:=z;refine hQ h' _ _ f k1 g (λa u J=>?_) (λb o q hb=>?_) (λp hp=>?_) k0
  ·obtain⟨o,q⟩:=N a u J;refine⟨o,dJ _ q λz=>?_⟩;rw[<- hst]at z;rw[I.wW a z]at J;cases J
  ·obtain⟨o',q'⟩:=Z b o q;exact⟨o',dJ _ q'<|K b o q hb⟩
  ·obtain⟨o',q'⟩:=m3 p hp;obtain⟨q,_,Y,V,_⟩:=I.pin p<|cC _ hp;refine⟨o',dJ _ q' λz=>?_⟩;rw[<- hst]at z;exact(bh.mp<|I.u7 _ z).elim Y V
 ·rw[hst]at F c2;refine cE (jh.any (e:=e) (jh.note _ _) (wpAny_looks_onW (Q:=λ_ d=>∃h',d={ s' with heap:=h' }/\Heap.HeldW B (X.env::X.outer) e cls a0 X.env.locals h'/\s'.heap.UpToSlots h') (E:=λ_ _=>False) m hf F λh' f g=>⟨h',rfl,f,g⟩) k0) (λ_ d z=>?_) λ_ _ z=>z.1.elim;obtain⟨⟨h',rfl,f,g⟩,k0'⟩:=z;exact hQ h' B a0 f F.1 g c1 (λb o q hb=>c2 b o q<|K b o q hb) c3 k0'
end
section
variable {X:Cx}{pn' pins:bt}{xe':aa->aA->Prop}{σ:L2.St}{H:Hp}{s':aA}{e C:aj}{B h6:ak}{a0:aa}
def zg(I:Inv (X.uo pn' xe') pins σ H s')(hex:X.ex=[])(F:Heap.FlyingW B (X.env::X.outer) e (.ref C) a0 h6)(k1:B.StaysIn s'.heap)(up:s'.heap.UpToSlots h6)
  (c1:∀a u,H a=some u->∃o,B.get? a=some o) (c2:∀b o,X.s₀.heap.get? b=some o->b∉X.fs->∃o',B.get? b=some o') (c3:∀p∈pn',∃o',B.get? p.1=some o') (k0:C0 e h6) :
  Fr0 X e/\H e=none/\∃oe,XO C oe/\Inv (X.hand pn' e oe) [] σ (upd H e<|.frz oe xu) { s' with heap:=h6 }:=by
 obtain⟨un,hok⟩:=xF I hex k1 F.1 up c1 c2;have hn:H e=none:=by
  cases q:H e with
  | none=>rfl
  | some u=>obtain⟨o,z⟩:=c1 e u q;rw[F.2.1]at z;cases z
 obtain⟨f,P,j,g2,g3,g5⟩:=k0;have ns:∀o,X.s₀.heap.get? e≠some o:=λo q=>by
  by_cases hb:e∈X.fs
  ·obtain⟨_,V,g,W⟩:=I.ok.qo.mem hb;have g:X.s₀.heap.get? e=some V:=g;rw[q]at g;cases g;obtain⟨Y,z⟩:=un.slot e o q (I.ok.frf e hb) hb (by simp);rw[j]at z;have z:f=_:=aR z;rw[z]at g2;exact W _ g2
  ·obtain⟨o',z⟩:=c2 e o q hb;rw[F.2.1]at z;cases z
 have J:∀(b:aj) (ob:Obj),s'.heap.get? b=some ob->(∀vs,ob.data≠.fields vs)->b≠e:=λb ob q d z=>by
  obtain⟨Y,L⟩:=up b ob q d;rw[z,j]at L;have L:f=_:=aR L;rw[L]at g2;exact d _ g2
 obtain⟨m,hm,hl⟩:=id I.loc;have t:s'.heap.Ns X.env.locals m:=hm;have G:∀c v,s'.heap.IsCell c v->h6.IsCell c v:=λc v h9=>by
  obtain⟨O,q,d⟩:=h9;obtain⟨Y,z⟩:=up c O q λvs y=>by rw[d]at y;cases y
  exact⟨_,z,d⟩
 have U:X.env.locals≠e:=by
  obtain⟨oL,es,ep,q,d,_⟩:=id t;exact J _ oL q λvs y=>by rw[d]at y;cases y
 have xo:XO C f:=by
  obtain⟨_,_,_,oe,vs,T,oT,ts,N,⟨hc,_⟩,hd,_⟩:=F;rw[j]at N;have N:f=oe:=aR N;subst N;exact⟨hc,g5,P,g2,g3⟩
 have no:∀u,H e≠some u:=λu q=>by rw[hn]at q;cases q
 have fr:Fr0 X e:=⟨ns,λxs q=>no _<|un.tups e xs q,λo u q=>no _<|un.frzs e o u q,λps q=>let⟨_,z⟩:=un.tbls e ps q;no _ z⟩;refine⟨fr,hn,f,xo,⟨I.ok.mod,I.ok.kind,I.ok.glob,I.ok.blt,I.ok.above,I.ok.inj,I.ok.has,I.ok.cab,λh=>(by cases h),I.ok.frames,I.ok.stk,I.ok.exf,λb o q=>⟨(I.ok.bs b o q).1,?_⟩,I.ok.bsz,I.ok.noex,I.ok.exfs,I.ok.qo,λb hb=>?_⟩,I.os,I.bare,?_,⟨m,up.ns t,λi x v h1 h2 Z=>?_⟩,λx c h=>?_,?_,λx c h=>?_,λp hp=>?_,λb u q=>?_,I.len⟩
 ·show upd X.H₀ e _ b=none;rw[iS λz=>ns o<|by rw[<- z];exact(I.ok.bs b o q).1];exact(I.ok.bs b o q).2
 ·show upd X.H₀ e _ b=none;obtain⟨_,V,g,W⟩:=I.ok.qo.mem hb;rw[iS λz=>ns V<|by rw[<- z];exact g];exact I.ok.frf b hb
 ·have h0:∀b o,X.s₀.heap.get? b=some o->upd X.H₀ e (.frz f xu) b=none->X.H₀ b=none:=λb o q n=>by
   rwa [iS λz=>ns o<|by rw[<- z];exact q]at n
  refine⟨λb o q n h _=>un.keep b o q (h0 b o q n) h<|by simp,λb o q n h _=>un.slot b o q (h0 b o q n) h<|by simp,λb o q n _=>?_,λb o q _=>un.there b o q<|by simp,λb xs q=>?_,λb o u q=>?_,λb ps q=>?_⟩
  ·rw[iS λz=>ns o<|by rw[<- z];exact q];exact un.free b o q (h0 b o q n) (by simp)
  ·have q:upd X.H₀ e (.frz f xu) b=some (.tup xs):=q;by_cases hb:b=e
   ·rw[hb,jy]at q;cases q
   ·rw[iS hb]at q ⊢;exact un.tups b xs q
  ·have q:upd X.H₀ e (.frz f xu) b=some (.frz o u):=q;by_cases hb:b=e
   ·rw[hb,jy]at q ⊢;exact q
   ·rw[iS hb]at q ⊢;exact un.frzs b o u q
  ·have q:upd X.H₀ e (.frz f xu) b=some (.tbl ps):=q;by_cases hb:b=e
   ·rw[hb,jy]at q;cases q
   ·rw[iS hb]at q ⊢;exact un.tbls b ps q
 ·obtain⟨u,r,lk⟩:=hl i x v h1 h2 Z;refine⟨u,r,?_⟩
  rcases lk with⟨k,z⟩|⟨k,c,z,y⟩
  ·exact .inl ⟨k,z⟩
  ·exact .inr ⟨k,c,z,G c _ y⟩
 ·obtain⟨v,z⟩:=I.cell x c h;exact⟨v,G c v z⟩
 ·show upd H e _ X.env.locals=none;rw[iS U];exact I.free
 ·obtain⟨v,O,q,d⟩:=I.cell x c h;rw[iS<|J c O q λvs y=>by rw[d]at y;cases y];exact I.freeC x c h
 ·have hp:p∈pn':=by
   have hp:p∈pn'++[]:=hp
   rwa [bM]at hp
  obtain⟨q,n,n1,n2,d⟩:=I.pin p<|cC _ hp;obtain⟨o',z⟩:=c3 p hp;have K:=k1 _ _ z;rw[q]at K;have K:p.2=o':=aR K;refine⟨by rw[K];exact F.1 _ _ z,?_,n1,n2,d⟩;rw[iS λy=>by rw[y,F.2.1]at z;cases z];exact n
 ·by_cases hb:b=e
  ·subst hb;rw[jy]at q;cases q;exact⟨j,trivial,⟨f,j⟩,λ_ _ _ _=>trivial⟩
  ·rw[iS hb]at q;exact(hok b u q).stay (λ_ _ _ z=>z) (λc z=>by rw[iS<|iZ z hn];exact z) λc xs z=>by rw[iS<|iZ z hn];exact z
end
section
variable {X:Cx}{pins:bt}{σ:L2.St}{H:Hp}{s:aA}
def Gx{A:au}{E:aa->aA->Prop}{i:Nat}{n:Str}{v:V}{Q:Unit->aA->Prop}(I:Inv X pins σ H s)(hN:X.N.Nodup)(hi:X.N[i]?=some n)(hlo:X.env.scope.names.lookup n=some .local)(hv:σ[i]?=some (some v))
  (h:∀s',Inv X pins (σ.set i none) H s'->Q Unit.unit s'):wpAny M A (unbindName X.env n) Q E s:=by
 obtain⟨m,hn,J⟩:=id I.loc;obtain⟨u,r,lk⟩:=J i n v hi hv<|.inl hlo;have hm:m n=some u:=by
  rcases lk with⟨_,z⟩|⟨k,_⟩
  ·exact z
  ·exfalso;have O:X.env.kindOf n=some .local:=hlo
   rcases k with k|k<;>(rw[O]at k;cases k)
 have F:(X.env.scope.kind == .class || (X.env.scope.kind == .module && X.env.locals != X.env.globals))=false:=by rw[I.ok.kind];rfl
 refine wpAny_unbindName_local hlo hn hm F λh' u' B hs=>?_;have f:∀b o,X.s₀.heap.get? b=some o->h'.get? b=s.heap.get? b:=λb o q=>hs.2 b<|br<|bH (aS q) I.ok.above;obtain⟨oL,_,_,P,_⟩:=id hn;refine h _ ⟨I.ok,I.os,I.bare,⟨λb o q g t a3=>(f b o q).trans<|I.base.keep b o q g t a3,λb o q g t a3=>?_,I.base.free,λb o q a3=>?_,I.base.tups,I.base.frzs,I.base.tbls⟩,⟨_,B,λj y W e1 e2 e3=>?_⟩,λy c q=>?_,I.free,I.freeC,λp hp=>?_,λb ob q=>?_,by rw[aZ];exact I.len⟩
 ·obtain⟨Z,z⟩:=I.base.slot b o q g t a3;exact⟨Z,(f b o q).trans z⟩
 ·obtain⟨o',z⟩:=I.base.there b o q a3;exact⟨o',(f b o q).trans z⟩
 ·by_cases C:j=i
  ·subst C;have:j<σ.length:=(aJ.mp hv).1;rw[bK this]at e2
   cases e2
  ·rw[bN<|cQ C]at e2;obtain⟨w,K,q⟩:=J j y W e1 e2 e3;refine⟨w,K,?_⟩
   rcases q with⟨k,z⟩|⟨k,c,z,U⟩
   ·have:y≠n:=λz=>C<|yf hN e1<|z ▸ hi;exact .inl ⟨k,by simp[this,z]⟩
   ·exact .inr ⟨k,c,z,U.sameBut hs<|I.Nd y c z⟩
 ·obtain⟨w,z⟩:=I.cell y c q;exact⟨w,z.sameBut hs<|I.Nd y c q⟩
 ·obtain⟨z,Y,G,L,d⟩:=I.pin p hp;exact⟨(hs.2 p.1 G).trans z,Y,G,L,d⟩
 ·refine(I.hok b ob q).stay (λc w hc z=>(hs.2 c ?_).trans z) (λ_ z=>z) λ_ _ z=>z;intro y
  rcases hc with hc|hc
  ·rw[<- hc,y,I.free]at q;cases q
  ·rw[y,I.free]at hc;cases hc
def Inv.uo(I:Inv X pins σ H s)(xe':aa->aA->Prop):Inv (X.uo (X.pn++pins) xe') [] σ H s:=
 ⟨⟨I.ok.mod,I.ok.kind,I.ok.glob,I.ok.blt,I.ok.above,I.ok.inj,I.ok.has,I.ok.cab,I.ok.hd,I.ok.frames,I.ok.stk,I.ok.exf,I.ok.bs,I.ok.bsz,I.ok.noex,I.ok.exfs,I.ok.qo,I.ok.frf⟩,I.os,I.bare,I.base,I.loc,I.cell,I.free,I.freeC,λp hp=>I.pin p (by
  have hp:p∈(X.pn++pins)++[]:=hp
  rwa [bM]at hp),I.hok,I.len⟩
def Inv.Ez{xe':aa->aA->Prop}(I:Inv (X.uo (X.pn++pins) xe') pins' σ H s):Inv X pins σ H s:=
 ⟨⟨I.ok.mod,I.ok.kind,I.ok.glob,I.ok.blt,I.ok.above,I.ok.inj,I.ok.has,I.ok.cab,I.ok.hd,I.ok.frames,I.ok.stk,I.ok.exf,I.ok.bs,I.ok.bsz,I.ok.noex,I.ok.exfs,I.ok.qo,I.ok.frf⟩,I.os,I.bare,I.base,I.loc,I.cell,I.free,I.freeC,λp hp=>I.pin p<|cC _ hp,I.hok,I.len⟩
def Inv.QC(I:Inv (X.hand (X.pn++pins) e oe) pins' σ H s)(ok:X.Ok)(f0:Fr0 X e):Inv X pins σ H s:=
 have h0:∀b o,X.s₀.heap.get? b=some o->X.H₀ b=none->upd X.H₀ e (.frz oe xu) b=none:=λb o q n=>by
  rw[iS λz=>f0.no o<|by rw[<- z];exact q];exact n
 ⟨ok,I.os,I.bare,⟨λb o q n=>I.base.keep b o q<|h0 b o q n,λb o q n=>I.base.slot b o q<|h0 b o q n,λb o q n=>I.base.free b o q<|h0 b o q n,I.base.there,λb xs q=>I.base.tups b xs<|show upd X.H₀ e (.frz oe xu) b=_ by rw[iS λz=>f0.tup xs<|by rw[<- z];exact q];exact q,λb o u q=>I.base.frzs b o u<|show upd X.H₀ e (.frz oe xu) b=_ by rw[iS λz=>f0.frz o u<|by rw[<- z];exact q];exact q,λb ps q=>I.base.tbls b ps<|show upd X.H₀ e (.frz oe xu) b=_ by rw[iS λz=>f0.tbl ps<|by rw[<- z];exact q];exact q⟩,I.loc,I.cell,I.free,I.freeC,λp hp=>I.pin p<|cC _ hp,I.hok,I.len⟩
end
section
variable {M:Model}{A:au}{E:aa->aA->Prop}{h:ak}{g:Array GenState}{d:Drawn}{t:Nat}{os:OsState}{C N D N':aj}{nm q nm' q':Str}{bs bm bs' bm':ar}{hdct hdct':Bool}{sn sn':am}{sub sub':ar}{ab ab':Bool}{col col':bj}{dd dd':Option aj}{k0 k1 k2 k3 k5 k0' k1' k2' k3' k5':be}{newId newId':String}
def yt{oe:Obj}{Q:Bool->aA->Prop}(hC:h.get? C=some (excClassObj nm q C N bs bm hdct sn sub ab col dd k0 k1 k2 k3 k5 newId))(hD:h.get? D=some (excClassObj nm' q' D N' bs' bm' hdct' sn' sub' ab' col' dd' k0' k1' k2' k3' k5' newId'))
  (he:h.get? e=some oe) (hcls:oe.cls=.ref C) (hbase:bm'.contains (.type "BaseException")=true) (hq:Q ((Value.ref C::bm).contains<|.ref D) ⟨h,g,d,t,os⟩):wpAny M A (excMatches (.ref e)<|.ref D) Q E ⟨h,g,d,t,os⟩:=by
 have j:(Value.ref D::bm').contains (.type "BaseException")=true:=by rw[List.contains_cons,hbase,Bool.or_true]
 have f:=tc_notTuple;unfold excMatches
 repeat (first|(with_reducible refine wpAny_loadPart_at he ?_;rw[hcls])|with_reducible refine wpAny_loadPart_at hD ?_|(with_reducible refine wpAny_isSubtype_exc hD ?_;rw[j])|with_reducible refine wpAny_isSubtype_exc hC ?_|wp_step)
 cases hb:(Value.ref C::bm).contains (.ref D)<;>(rw[hb]at hq;wp_walk;exact hq)
end
abbrev mroIn (K:aq)(C:aj):Option (ar):=match K.lookup C with
 | some ⟨.type "type",_,.cls cd,sl⟩=>(match cd.mro,sl.toList with
  | .ref C'::bm,[_,_,_,_,some<|.builtin _,_]=>if C'=C/\cd.hasDel=false then some bm else none
  | _,_=>none)
 | _=>none
structure ClsAt (h:ak)(C:aj)(bm:ar):Prop where
 ex:∃nm q N bs hdct sn sub ab col dd k0 k1 k2 k3 k5 newId,h.get? C=some (excClassObj nm q C N bs bm hdct sn sub ab col dd k0 k1 k2 k3 k5 newId)
def JV{K:aq}(X:K.In h)(e:mroIn K C=some bm):ClsAt h C bm:=by
 unfold mroIn at e;split at e
 ·rename_i dd cd g q;split at e
  ·rename_i t bm' k0 k1 k2 k3 n k5 hm hs;split at e
   ·rename_i hc
    cases e
    obtain⟨rfl,d⟩:=hc;obtain⟨nm,bs,j,ns,k,hd,sn,sub,ab,col,m⟩:=cd;dsimp only at hm d;subst hm d;have f:g=#[k0,k1,k2,k3,some<|.builtin n,k5]:=by
     obtain⟨l⟩:=g;simp only at hs;rw[hs]
    subst f;exact⟨nm,k,ns,bs,hd,sn,sub,ab,col,dd,k0,k1,k2,k3,k5,n,X _ _ q⟩
   ·cases e
  ·cases e
 ·cases e
abbrev TN (i:Nat)(D:Ends):Ends:=⟨λσ H=>D.nx (σ.set i none) H,D.rt,λσ H=>D.bk (σ.set i none) H,λσ H=>D.ct (σ.set i none) H⟩
section
variable {X:Cx}{pins pins':bt}{xe':aa->aA->Prop}{σ:L2.St}{H:Hp}{s':aA}{e C Dc:aj}{bm bmD:ar}{x n:Str}{i:Nat}{De:Ends}{b0:aE}{suite:List aE}{np hp:Pos}
def BZ{f:Flow}(hN:X.N.Nodup)(hi:X.N[i]?=some n)(hlo:X.env.scope.names.lookup n=some .local)(ok:X.Ok)(f0:Fr0 X e)(h:SP (X.hand (X.pn++pins) e oe) [] (TN i De) f s2) :
  wpAny (model X.prog X.w) X.A (do bindName X.env n .none;unbindBehindTheSuite X.env n pos) (λ_ s3=>SP X pins De f s3) X.xe s2:=by
 have m:∀{d:L2.St} {H':Hp},Inv (X.hand (X.pn++pins) e oe) [] d H' s2->(∀s3,Inv X pins (d.set i none) H' s3->SP X pins De f s3)->wpAny (model X.prog X.w) X.A (do bindName X.env n .none;unbindBehindTheSuite X.env n pos) (λ_ s3=>SP X pins De f s3) X.xe s2:=λ{d H'} J k=>by
  have J:=J.QC ok f0;have j:i<d.length:=by rw[J.len];exact(aJ.mp hi).1
  refine aI<|wpAny_bindName<|rf (v:=.jC) J hN hi (.inl hlo) rfl (λs3 g=>?_)<|.inr hlo;unfold unbindBehindTheSuite;refine wpAny_onRaise (Gx (v:=.jC) g hN hi hlo (bK j) λt z=>k t ?_)
  rwa [gO]at z
 cases f with
 | next=>obtain⟨d,H',J,q⟩:=h;exact m J λs3 g=>⟨_,_,g,q⟩
 | brk=>obtain⟨d,H',J,q⟩:=h;exact m J λs3 g=>⟨_,_,g,q⟩
 | cont=>obtain⟨d,H',J,q⟩:=h;exact m J λs3 g=>⟨_,_,g,q⟩
 | ret u=>obtain⟨v,d,H',J,r,q⟩:=h;exact m J λs3 g=>⟨v,_,_,g,r,q⟩
def KJ(hst:X.stack=X.env::X.outer)(hf:X.env.frame=some X.env.locals)(hex:X.ex=[])(hN:X.N.Nodup)(hi:X.N[i]?=some n)(hlo:X.env.scope.names.lookup n=some .local)(hg:Gl X x)(hm:X.mg x=some (.ref Dc))(mD:mroIn X.K Dc=some bmD)(hbD:bmD.contains (.type "BaseException")=true)
  (I:Inv (X.uo (X.pn++pins) xe') pins' σ H s') (R:vp (X.uo (X.pn++pins) xe') H e (.ref C) s') (mC:mroIn X.K C=some bm) (hCD:(Value.ref C::bm).contains (.ref Dc)=true)
  (k:∀oe s6,XO C oe->H e=none->Inv (X.hand (X.pn++pins) e oe) [] (σ.set i<|some<|.ref e) (upd H e<|.frz oe xu) s6->wpAny (model X.prog X.w) (X.A.mark<|some<|.ref e) (execs (b0::suite) X.env) (SP (X.hand (X.pn++pins) e oe) []<|TN i De) (λ_ _=>False) s6)
  (ok:X.Ok) (hdb:(x == ("__debug__" : Str))=false) :
  wpAny (model X.prog X.w) X.A (noteFrame (.ref e) X.env) (λ_ s2=>wpAny (model X.prog X.w) X.A (setFlight (.ref e) none) (λ_ s3=>wpAny (model X.prog X.w) X.A (handleBy (.ref e) X.env [.ExceptHandler (some<|.Name x np) (some n) (b0::suite) hp]) (SP X pins De) X.xe s3) X.xe s2) X.xe s':=by
 refine Gz I hst hf R λh4 B a0 j k1 g c1 c2 c3 Y=>?_;refine cE (jh.any (e:=e) (jh.flight _ _) (wpAny_landsW (Q:=λ_ d=>∃h',d={ s' with heap:=h' }/\Heap.FlyingW B (X.env::X.outer) e (.ref C) a0 h'/\h4.UpToSlots h') (E:=λ_ _=>False) j λh' G J=>⟨h',rfl,G,J⟩) Y) (λ_ d z=>?_) λ_ _ z=>z.1.elim;obtain⟨⟨h5,rfl,L,m⟩,O⟩:=z;obtain⟨_,_,o5,W,t⟩:=zg I hex L k1 (g.trans m) c1 c2 c3 O;refine wpAny_handleBy_cons (codeAny_handlers_test<|sf (X:=X.hand (X.pn++pins) e o5) t hg hm ?_ hdb) (by intro q;cases q);obtain⟨P,_⟩:=t.hok e _ jy;obtain⟨_,_,_,_,_,_,_,_,_,_,_,_,_,_,_,_,hC⟩:=(JV t.wj mC).ex;obtain⟨_,_,_,_,_,_,_,_,_,_,_,_,_,_,_,_,U⟩:=(JV t.wj mD).ex;refine yt hC U P W.cls hbD ?_;rw[hCD];refine codeAny_handlers_suite_as ?_;refine cE (jh.any (e:=e) (jh.flight _ _) (lands_againW (Q:=λ_ d=>∃h',d={ s' with heap:=h' }/\Heap.FlyingW B (X.env::X.outer) e (.ref C) a0 h'/\h5.UpToSlots h') (E:=λ_ _=>False) L λh' G J=>⟨h',rfl,G,J⟩) O) (λ_ d z=>?_) λ_ _ z=>z.1.elim;obtain⟨⟨h6,rfl,F6,F⟩,z6⟩:=z;obtain⟨f0,n6,o6,V,I6⟩:=zg I hex F6 k1 ((g.trans m).trans F) c1 c2 c3 z6;refine rf (X:=X.hand (X.pn++pins) e o6) (v:=.ref e) I6 hN hi (.inl hlo) rfl (λs7 I7=>?_)<|.inr hlo;exact cE (k o6 s7 V n6 I7) (λf s8 Z=>BZ hN hi hlo ok f0 Z) λ_ _ z=>z.elim
end
open PySem.W in
structure XCls (K:aq)(C:aj):Prop where
 ga:findIn K (.ref C) "__getattribute__" = some (some<|.builtin "BaseException.__getattribute__")
 gt:findIn K (.ref C) "__getattr__" = some none
 fc:findObj K C none "__class__" = some (.bind (.builtin "getset_descriptor.__get__")<|.builtin "object.__class__")
 ob:PySem.W.mroIn K C (.type "object")=some true
 bs:subIn K (.ref C) (.type "BaseException")=some true
section
open PySem.W
variable {K:aq}{C a:aj}{ox:Obj}{prog:ah}{w:af}{A:au}{E:aa->aA->Prop}{h:ak}{g:Array GenState}{d:Drawn}{t:Nat}{os:OsState}
def Iu{Q:Fin->aA->Prop}(x:XCls K C)(X:K.In h)(I:PySem.W.InstAt h a ox C none)(hq:Q (.done<|.ret<|.ref C) ⟨h,g,d,t,os⟩) :
  wpAny (model prog w) A (Builtin.«object.__getattribute__» ⟨[.ref a,.str "__class__" tk],[]⟩) Q E ⟨h,g,d,t,os⟩:=by
 have f:=I.type (M:=model prog w);have j:=looks_find (M:=model prog w) X I x.fc;unfold Builtin.«object.__getattribute__»
 repeat (first|with_reducible refine aI (gQ ?_)|with_reducible refine gQ ?_|lk)
 refine class_get X I x.ob ?_
 repeat lk
 exact hq
def IU{Q:Unit->aA->Prop}(x:XCls K C)(X:K.In h)(I:PySem.W.InstAt h a ox C none)(hq:Q Unit.unit ⟨h,g,d,t,os⟩):wpAny M A (checkBuiltinCall "BaseException.__getattribute__" ⟨[.ref a,nv],[]⟩) Q E ⟨h,g,d,t,os⟩:=by
 have m:builtinKind "BaseException.__getattribute__" = some .slot:=by decide +kernel
 have hs:splitId "BaseException.__getattribute__" = some ("BaseException", "__getattribute__"):=by decide +kernel
 have z:Looks M h (isInstance (.ref a)<|.type "BaseException") true:=(I.type (M:=M)).andThen<|looks_subIn X x.bs;have k:=F.args_bexc_ga (.ref a) nv;dsimp[checkBuiltinCall,m,hs];refine aI<|z.at ?_;show wpAny M A (match Manifest.signature? "BaseException.__getattribute__" with
  | some f=>Bind.checkArgs "BaseException.__getattribute__" f { pos:=[Value.ref a,nv]}
  | x=>pure Unit.unit) Q E _
 cases j:Manifest.signature? "BaseException.__getattribute__" with
 | none=>exact aM hq
 | some f=>
  dsimp[argsOk,j]at k;have q:Bind.checkArgs "BaseException.__getattribute__" f ⟨[.ref a,nv],[]⟩=pure Unit.unit:=k;show wpAny M A (Bind.checkArgs "BaseException.__getattribute__" f ⟨[.ref a,nv],[]⟩) Q E _;rw[q];exact aM hq
def MY(self:aa):bindSpecial (.builtin "BaseException.__getattribute__") self=pure (.builtin "BaseException.__getattribute__",[self]):=by
 have h1:withoutEnding? "BaseException.__getattribute__" "#opaque" = none:=by decide +kernel
 have d:withoutEnding? "BaseException.__getattribute__" "#data" = none:=by decide +kernel
 have f:builtinKind "BaseException.__getattribute__" = some .slot:=by decide +kernel
 dsimp[bindSpecial,typeOf,builtinType,h1,d,f];rfl
def Q3{Q:aa->aA->Prop}(x:XCls K C)(X:K.In h)(I:PySem.W.InstAt h a ox C none)(hq:Q (.ref C) ⟨h,g,d,t,os⟩):wpAny (model prog w) A (getAttrBy (.ref a) (.str "__class__" tk) false) Q E ⟨h,g,d,t,os⟩:=by
 have f:=I.type (M:=model prog w);have j:=looks_findIn (M:=model prog w) X x.ga;have L2:=looks_findIn (M:=model prog w) X x.gt;unfold getAttrBy;refine cL<|aI<|f.at<|aI<|j.at ?_;show wpAny _ _ (if (onTheHeap (Value.ref C) && Value.builtin "BaseException.__getattribute__" == Value.builtin "object.__getattribute__")=true then _ else getAttrByItsOwn (.ref a) (.str "__class__" tk) (.ref C) (.builtin "BaseException.__getattribute__") false false) _ _ _;have k:(Value.builtin "BaseException.__getattribute__" == Value.builtin "object.__getattribute__")=false:=by decide +kernel
 rw[k,bO,bu bz];unfold getAttrByItsOwn hookBefore;rw[bf<|show onTheHeap (Value.ref C)=true from rfl];refine aI<|L2.at<|aI<|iu<|cL ?_;unfold callGetattribute boundAndCalled
 skip
 rw[MY,pure_bind];refine gQ<|codeAny_call_builtin ∅ F.entry_bexc_ga (IU x X I<|Iu x X I ?_);exact aM hq
def HH{Q:be->aA->Prop}(x:XCls K C)(X:K.In h)(I:PySem.W.InstAt h a ox C none)(hq:Q (some<|.ref C) ⟨h,g,d,t+1,os⟩):wpAny (model prog w) A (getAttr? (.ref a) "__class__") Q E ⟨h,g,d,t,os⟩:=by
 unfold getAttr? getAttrBy?;refine aI<|wpAny_mkText<|aI<|iu<|Q3 x X I ?_;exact aM hq
abbrev VC (C a:aj):ak->Prop:=λh=>∃ox,PySem.W.InstAt h a ox C none
def LJ(x:XCls K C)(hc:(clsIn K C).isSome=true):KitX K (.ref a) (.ref C) (VC C a) where
 ty:=λ_ _ _ ⟨_,I⟩=>I.type
 it:=λ_ _ X _=>by
  unfold clsIn at hc;split at hc
  ·rename_i f;intro N B F s' k q;unfold isType loadHead;exact aI (wpAny_loadPart (k _ _<|X _ _ f)<|aM q)
  ·cases hc
 ne:=λh j dd g n G X d=>by
  refine d9.mpr λq=>?_;have e:C=j:=Value.ref.inj<|iy.mp q;subst e;unfold clsIn at hc;split at hc
  ·rename_i f;have z:=(X _ _ f).symm.trans d
   cases z
  ·cases hc
 ca:=λ{_ _ _ _ _ s} X ⟨_,I⟩ k=>by
  obtain⟨J,t,dd,m,L⟩:=s;exact HH x X I k
end
section
variable {X:Cx}{C:aj}{pins:bt}{σ:L2.St}{H:Hp}{s:aA}
def CM{A:au}{E:aa->aA->Prop}{Q:aa->aA->Prop}{a:aj}(x:XCls X.K C)(hc:(PySem.W.clsIn X.K C).isSome=true)(I:Inv X pins σ H s)(ha:H a=some (.frz oe xu))(hx:XO C oe)(e:PySem.W.kitOne X.K (.ref C) c=some b)(h:∀tk,Q (.bool b) { s with toks:=tk }) :
  wpAny (model X.prog X.w) A (call (.builtin "isinstance") [.ref a,c]) Q E s:=by
 obtain⟨d,_⟩:=I.hok a _ ha;obtain⟨g2,g,vs,f,j⟩:=hx;refine cI (LJ x hc) I.wj ⟨oe,d,g2,?_,?_⟩ e (λz=>nomatch z) h
 ·unfold PySem.W.notCls;rw[f]
 ·rw[g];trivial
end
end L2
namespace L2
open PySem PySem.Spec PyProof.Rows
def yD:entryFor table "proto.unchain" = some Builtin.«proto.unchain»:=entryFor_of_fast<|by kernel_rfl
section
variable {prog:ah}{w:af}{A:au}{E:aa->aA->Prop}{s:aA}{e n:aj}{oe on:Obj}{vs ns:Array aa}
def Cz{α:Type}{Q:α->aA->Prop}(hh:A.handled=some (.ref e))(he:s.heap.get? e=some oe)(hd:oe.data=.fields vs)(h2:vs[2]?=some .none)(hn:s.heap.get? n=some on)(nd:on.data=.fields ns)(n2:2<ns.size)(ne:e≠n)
  (h:E (.ref n) { s with heap:=s.heap.update n<|Obj.mapFields (·.setIfInBounds 2 (.ref e))}):wpAny (model prog w) A (raiseNew (.ref n):Sem α) Q E s:=by
 unfold raiseNew;refine aI<|wpAny_handled ?_;rw[hh];show wpAny _ _ (if (Value.ref e != Value.ref n)=true then _ else _) _ _ _;rw[bf<|by simp[ne]];refine aI<|cL<|wpAny_runValue<|fJ yD ?_;unfold Builtin.«proto.unchain»;refine aI<|d8 he hd h2 ?_;rw[bf<|show(Value.none == Value.none)=true from rfl];refine aM ?_
 skip
 exact aI<|wpAny_setField hn nd n2<|wpAny_throw h
def CL{i:Nat}{Q:be->aA->Prop}(hh:A.handled=some (.ref e))(he:s.heap.get? e=some oe)(hd:oe.data=.fields vs)(h2:vs[2]?=some .none)(nit:e≠it)
  (hit:s.heap.IsListIter it l i) (hl:s.heap.IsList l items) (hx:items[i]?=none) (hQ:∀h',Heap.ExtBut it s.heap h'->Q none { s with heap:=h' }):wpAny (model prog w) A (pyNext<|.ref it) Q E s:=by
 obtain⟨o,j,hc,d⟩:=id hit;obtain⟨G,t,_,F,z⟩:=hl;unfold pyNext;refine aI<|iu<|fQ (name:=Str.ofString "__next__") hit.typeIs slot_listiter_next<|gp slot_listiter_next hit.typeIs entry_listiter_next ?_<|args_listiter_next _;show wpAny _ _ (field (.ref it) 0 >>= _) _ _ _;refine aI (d8 j d (x:=.ref l) rfl ?_)
 skip
 rw[bu<|show ¬((Value.ref l == Value.none)=true)from bz]
 skip
 refine aI (d8 j d (x:=.int i 0) rfl ?_)
 skip
 refine aI<|wpAny_seqItems t z ?_;dsimp[Int.toNat_natCast,hx];refine aI (gq<|aI<|wpAny_setField j d (by simp) ?_)
 skip
 refine aI ?_;dsimp[newExc,newTuple];refine aI (bV ?_<|by size_fits);refine aI (m:=firstArgMember _ _) (wpAny_of_eq (a:=Value.none) (by first|rfl|(dsimp[firstArgMember];rfl)) ?_);refine bV ?_ (by size_fits);have g:∀(f:Obj->Obj),(s.heap.update it f).get? e=some oe:=λf=>by rw[cD _ _<|cQ nit];exact he
 have k:∀(f:Obj->Obj) (C:Obj),e≠((s.heap.update it f).push C).objs.size:=λf C=>br<|aS<|aK _<|g f;refine Cz (A:=A.in1) hh (aK _<|aK _<|g _) hd h2 (bC _ rfl) rfl (by simp[ownMembersOf]) (k _ _) ?_;refine aI<|gu (T := "StopIteration") (b:=true) ⟨_,dU _ (bC _ rfl)<|Obj.isFreed_of_fields<|Obj.data_mapFields rfl _,Obj.cls_mapFields ..⟩ isSubtype_stop ?_;refine aM<|hQ _ λb o' hb q=>?_;have B:=((Heap.SameBut.update it (Obj.mapFields λx=>x.setIfInBounds 0 Value.none) (h:=s.heap)).extBut.push { cls:=Value.type "tuple",data:=Data.seq #[]}) b o' hb q;rw[cD _ _<|cQ<|br<|aS B];exact aK _ B
end
abbrev Dl (A:au):au:={ A with handled:=none }
abbrev zw (k:Nat)(A:au):Prop:=Room k<|Dl A
def GZ{k:Nat}{A:au}(r:Room j A)(hk:k<=j):zw k (A.mark h):=⟨rfl,(r.mono hk).dp,(r.mono hk).un,r.gs⟩
structure Hnd (A:au)(H:Hp)(e:aj)(oe:Obj)(C:aj):Prop where
 hh:A.handled=some (.ref e)
 h0:H e=some (.frz oe xu)
 xo:XO C oe
structure FnOkH (P:ah)(w:af)(K:aq)(mg:Str->be)(base:ak)(k:Nat)(f:aj)(fd:FuncData)(ps:am)(sp:Sp):Prop where
 len:∀vs H Q E,sp vs H Q E->vs.length=ps.length
 run:∀(A:au) (outer:List Env) (s:aA) (H:Hp) (args:Args) (us:ar) (vs:List V) (Q:VK) (e:aj) (oe:Obj) (C:aj),zw k A->Hnd A H e oe C->Env0 P w K mg base A outer s H->BindsTo s fd args (ps.zip us)->Vals vs us->sp vs H Q E0 ->
  codeAny (model P w) A (.call (.ref f) args) (CR qG outer P w H s Q E0) s
abbrev SV (P:ah)(w:af)(K:aq)(mg:Str->be)(base:ak)(N:am)(qual:Str)(scope:Scope)(f:aj)(cd:aa)(A:au)(outer:List Env)(s:aA)(H:Hp):Cx:=
 { uP qG P w K mg base N qual scope f cd A outer s H E0 with calm:=false,xe:=λ_ _=>False }
def C_{P:ah}{w:af}{K:aq}{mg:Str->be}{base:ak}{N:am}{f:aj}{A:au}{outer:List Env}{H H':Hp}
  (I:Inv (uP qG P w K mg base N qual scope f cd (Dl A) outer s H E0) pins σ H' s1):Inv (SV P w K mg base N qual scope f cd A outer s H) pins σ H' s1:=
 ⟨⟨I.ok.mod,I.ok.kind,I.ok.glob,I.ok.blt,I.ok.above,I.ok.inj,I.ok.has,I.ok.cab,λh=>(by cases h),I.ok.frames,I.ok.stk,I.ok.exf,I.ok.bs,I.ok.bsz,I.ok.noex,I.ok.exfs,I.ok.qo,I.ok.frf⟩,I.os,I.bare,I.base,I.loc,I.cell,I.free,I.freeC,I.pin,I.hok,I.len⟩
def PU{P:ah}{w:af}{K:aq}{mg:Str->be}{base:ak}{k:Nat}{x:Str}{st:aE}{f:aj}{N ps:am}{sp:Sp}(F:Fun K x qual st f fd)(S:FnScope N ps<|iU st)(len:∀vs H Q E,sp vs H Q E->vs.length=ps.length)
  (hb:∀(cdv:aa) (A:au) (outer:List Env) (s:aA) (H:Hp) (vs:List V) (Q:VK) (e:aj) (oe:Obj) (C:aj),zw k (A.deeper<|envOfC qual (iU st) s.heap.objs.size f cdv)->Hnd A H e oe C->sp vs H Q E0 ->
   ∃t,yo (SV P w K mg base N qual (iU st) f cdv A outer s H) (lN st) t/\t { nx:=λ_ H'=>Q .jC H',rt:=Q } (start N vs) H):FnOkH P w K mg base (k+1) f fd ps sp:=by
 obtain⟨oc,od,kV,doc,pm,an,cdv,ct,osl,rfl,lk,L⟩:=F.ex;refine⟨len,λA outer s H args us vs Q e oe C G hx e0 B r m=>?_⟩;have hl:=len _ _ _ _ m;have Z:K.In s.heap:=e0.mod.kin.keeps λb o z=>(e0.bs b o z).1;have U:s.heap.NoLimit:=e0.mod.nolimit.keeps λb o z=>(e0.bs b o z).1;have g:∀y∈ps.zip us,(iU st).names.lookup y.1=some .local\/((iU st).names.lookup y.1=some .cell/\((cellsFrom (s.heap.objs.size+1) (iU st).names []).lookup y.1).isSome=true):=λy hy=>
  (S.par y.1 (gD hy).1).imp (λq=>q) λq=>⟨q,dN _ _ _<|.inl q⟩
 refine codeAny_call_function (show A.depth<_ from G.depth) (Z _ _ lk) rfl S.co S.gen rfl (PySem.W.codeRec_of Z L)<|B _ _ _ _ ?_;refine wpAny_newFunctionEnv_cells S.kind g λenv he s1 Y=>?_;subst he;refine⟨U.keeps Y.toInCall.keep,codeAny_func ?_⟩;obtain⟨t,ht,hq⟩:=hb cdv A outer s H vs Q e oe C (Room.deeper G _) hx m;have e1:Env0 P w K mg base (Dl A) outer s H:=⟨e0.frames,e0.mod,e0.bs,e0.bsz,e0.qo,e0.frf,e0.hok,e0.bare⟩;have I:=C_<|zh (CX:=qG) (E:=E0) (qual:=qual) (f:=f) (cd:=cdv) S G.hd e1 hl r Y;refine cE (ht [] s1 (start N vs) H _ I hq) (λfl s' hs=>?_) λ_ _ z=>z.elim;have j:∀{d:L2.St} {H':Hp} {v:V} {u:aa},Inv (SV P w K mg base N qual (iU st) f cdv A outer s H) [] d H' s'->RelV v u->Q v H'->CE outer P w H s Q u s':=λ{d H' v u} J O q=>⟨v,H',J.os,J.bare,J.base,J.hok,O,q⟩
 cases fl with
 | ret u=>obtain⟨v,d,H',J,O,q⟩:=hs;exact j J O q
 | next=>obtain⟨d,H',J,q⟩:=hs;exact j (v:=V.jC) (u:=Value.none) J rfl q
 | brk=>obtain⟨_,_,_,q⟩:=hs;exact q.elim
 | cont=>obtain⟨_,_,_,q⟩:=hs;exact q.elim
abbrev Vd (P:ah)(w:af)(K:aq)(mg:Str->be)(base:ak)(k:Nat)(x:Str)(ps:am)(sp:Sp):Prop:=
 ∃(f:aj) (fd:FuncData),FnOkH P w K mg base k f fd ps sp/\mg x=some (.ref f)/\PySem.W.keepIn K (.ref f)=true/\Binds K fd ps []
def P9{X:Cx}{k:Nat}{x:Str}{sp:Sp}{a:aC}{t:TA}{p:Pos}(G:Vd X.prog X.w X.K X.mg X.base k x ps sp)(hr:zw k X.A)(hh:X.A.handled=some (.ref e))(h0:X.H₀ e=some (.frz oe xu))(xo:XO C oe)(ha:PA X (a::es) t)(hg:Gl X x:=by rfl)
  (hdb:(x == ("__debug__" : Str))=false:=by decide) (hs:starEach (a::es) X.env=(false,eval a X.env)::starEach es X.env:=by rfl) (hplain:(backTo pos<|starEach es X.env).any (·.1)=false:=by rfl) :
  PE X (.Call (.Name x p) (a::es) [] pos) (LK sp [] E0 t):=by
 obtain⟨f,fd,F,hm,j,hb⟩:=G;fin2;refine eV<|sf I hg hm ?_ hdb;refine gR (h₀:=X.base) I.ok.mod.kin j (ki (ha pos pins s σ H _ I h) λus g ⟨vs,H1,I1,r,q⟩=>⟨I1.wj,?_⟩) hs hplain;have q:sp (vs++[]) H1 Q E0:=q;rw[bM]at q;have m:us.length=ps.length:=by rw[<- r.length];exact F.len _ _ _ _ q
 refine gQ (eU (F.run X.A X.stack g H1 ⟨us,[]⟩ us vs Q e oe C hr ⟨hh,I1.base.frzs e oe xu h0,xo⟩ I1.Pu (by have:=hb g us I1.wj (by rw[bM];exact m);rwa [bM]at this) r q) λr s' d=>?_)
 cases r with
 | error e=>exact d.elim
 | ok fl=>
  cases fl with
  | ret u=>exact I1.after d
  | next=>exact d.elim
  | brk=>exact d.elim
  | cont=>exact d.elim
end L2
namespace L2
open PySem PySem.Spec PyProof.Rows PySem.SeqAt
def zR:bootBuiltins "sum" = some (.builtin "sum"):=by decide +kernel
def Pf:bootBuiltins "zip" = some (.type "zip"):=by decide +kernel
section
variable {X:Cx}
def Gh(hc:X.calm=true):jH X (.builtin "sum") (λxs H Q=>∃(p:aj) (ns:ae),xs=[.ref p]/\kP X.K H p (ns.map V.int)/\Q (.int ns.sum) H):=by
 gp_on;obtain⟨p,ns,rfl,z,q⟩:=h;kln_w
 cases rx
 obtain⟨j,k,t,B⟩:=I.list z;have hi:=intsAre_of k;have f:=t.isList;obtain⟨ys,e⟩:=hi.allInts.items;have d:ns=ys.toList.map (·.1):=by
  rw[<- hi.numsOf,<- nums_intItems,<- e]
 rw[e]at f;refine sum_intListG (I.ok.hd hc) f λh' C m g=>?_;refine⟨.int _,H,I.kept g,⟨m,rfl⟩,?_⟩;rw[preSum_eq,c_<|by simp,<- d];exact q
end
abbrev TX (K:aq)(l1 l2:aj):It:=
 ⟨λi H=>∃xs ys x y,kP K H l1 xs/\kP K H l2 ys/\xs[i]?=some x/\ys[i]?=some y,
  λi H v H'=>∃T,H T=none/\v=.ref T/\∀xs ys x y,kP K H l1 xs->kP K H l2 ys->xs[i]?=some x->ys[i]?=some y->H'=upd H T (.tup [x,y]),
  λi H=>∃xs ys,kP K H l1 xs/\kP K H l2 ys/\(xs[i]?=none\/ys[i]?=none)⟩
theorem Iz{P:ah}{w:af}{K:aq}{TI TO l1 l2:aj}(D:ZipApart z TI TO i1 i2 l1 l2) :
  Turn P w K (.Tuple elts x1 tpos) (TX K l1 l2) [z,TI,TO,i1,i2] z (λi h=>IsZip h z TI TO .none/\IsPair h TI (.ref i1) (.ref i2)/\(∃a b,IsPair h TO a b)/\h.IsListIter i1 l1 i/\h.IsListIter i2 l2 i) where
 mem:=by simp
 obj:=λi h st b hb=>by
  obtain⟨s1,Y,⟨a,b',s3⟩,⟨o4,e4,c4,d4⟩,⟨o5,e5,c5,d5⟩⟩:=st;have F:b=z\/b=TI\/b=TO\/b=i1\/b=i2:=by simpa using hb
  rcases F with rfl|rfl|rfl|rfl|rfl
  ·exact⟨_,s1,λv z=>by cases z⟩
  ·exact⟨_,Y,λv z=>by cases z⟩
  ·exact⟨_,s3,λv z=>by cases z⟩
  ·exact⟨o4,e4,λv z=>by rw[d4]at z;cases z⟩
  ·exact⟨o5,e5,λv z=>by rw[d5]at z;cases z⟩
 keep:=λi h h' st k=>by
  obtain⟨s1,Y,⟨a,b',s3⟩,s4,s5⟩:=st;exact⟨k z (by simp) _ s1,k TI (by simp) _ Y,⟨a,b',k TO (by simp) _ s3⟩,s4.at λo B=>k i1 (by simp) o B,s5.at λo B=>k i2 (by simp) o B⟩
 item:=by
  z_go;subst hP hw hK;obtain⟨s1,Y,⟨a,b',s3⟩,s4,s5⟩:=st;obtain⟨xs,ys,x,y,U,W,hx,hy⟩:=hg;obtain⟨Z,rv1,p1,hz1⟩:=I.list U;obtain⟨its2,rv2,p2,hz2⟩:=I.list W;obtain⟨u1,hu1,ru1⟩:=rv1.get hx;obtain⟨u2,hu2,ru2⟩:=rv2.get hy;refine wpAny_pyNext_zip_item D s1 Y s3 s4 s5 p1.isList p2.isList (x:=u1) (y:=u2) (by simpa using hu1) (by simpa using hu2) λh' hz' hTO' h1' h2' hT hsz hk=>?_;refine⟨_,rfl,wpAny_letOwnedTupleGo_zip hz' λh2 he2 O=>?_⟩;have fT:H s.heap.objs.size=none:=I.hok.fresh<|aL _;have lz:z<s.heap.objs.size:=aS s1;have lTI:TI<s.heap.objs.size:=aS Y;have lTO:TO<s.heap.objs.size:=aS s3;have li1:i1<s.heap.objs.size:=by obtain⟨o,B,_⟩:=s4;exact aS B
  have li2:i2<s.heap.objs.size:=by obtain⟨o,B,_⟩:=s5;exact aS B
  have k2:∀b o,b≠z->b≠TO->b≠i1->b≠i2->s.heap.get? b=some o->h2.get? b=some o:=λb o G L J N q=>O.extBut b o G<|hk b o G L J N q;have hT2:IsPair h2 s.heap.objs.size u1 u2:=O.extBut _ _ (gK lz) hT;have fz:=hf z (by simp);have fTI:=hf TI (by simp);have f:=hf TO (by simp);have d:=hf i1 (by simp);have g:=hf i2 (by simp);have nT:∀b o,s.heap.get? b=some o->b≠s.heap.objs.size:=λb o q=>br<|aS q;have t:∀c v,H c=some v->c≠z/\c≠TO/\c≠i1/\c≠i2:=λc v q=>⟨(λw=>by rw[w,fz.1]at q;cases q),(λw=>by rw[w,f.1]at q;cases q),(λw=>by rw[w,d.1]at q;cases q),(λw=>by rw[w,g.1]at q;cases q)⟩;have C:∀b,b∉[z,TO,i1,i2]->b≠z/\b≠TO/\b≠i1/\b≠i2:=λb hb=>by simpa using hb
  have I2:Inv X pins σ (upd H s.heap.objs.size<|.tup [x,y]) { s with heap:=h2,toks:=s.toks }:=by
   refine I.step (g':=s.gens) (d':=s.drawn) (ch:=[z,TO,i1,i2]) (λb hb=>?_) (λb o _ _ j q _=>?_) (λb o _ _ j q _=>?_) (λb o j q n=>?_) (λb o j q=>?_) (λb ys q=>?_) (λb o u' q=>?_) (λb ps q=>?_) (λm hm=>?_) (λb u' q=>?_) I.bare
   ·have F:b=z\/b=TO\/b=i1\/b=i2:=by simpa using hb
    rcases F with rfl|rfl|rfl|rfl
    ·exact⟨fz.2.2.2.1,fz.2.1,fz.2.2.2.2.1,fz.2.2.2.2.2⟩
    ·exact⟨f.2.2.2.1,f.2.1,f.2.2.2.2.1,f.2.2.2.2.2⟩
    ·exact⟨d.2.2.2.1,d.2.1,d.2.2.2.2.1,d.2.2.2.2.2⟩
    ·exact⟨g.2.2.2.1,g.2.1,g.2.2.2.2.1,g.2.2.2.2.2⟩
   ·obtain⟨G,L,J,N⟩:=C b j;exact k2 b o G L J N q
   ·obtain⟨G,L,J,N⟩:=C b j;exact⟨o.slots,k2 b o G L J N q⟩
   ·rw[iS<|nT b o q];exact n
   ·obtain⟨G,L,J,N⟩:=C b j;exact⟨o,k2 b o G L J N q⟩
   ·rw[iS<|iZ q fT];exact q
   ·rw[iS<|iZ q fT];exact q
   ·exact⟨#[],by rw[iS<|iZ q fT,q];simp⟩
   ·obtain⟨o,es,ep,B,r⟩:=hm;exact⟨o,es,ep,k2 _ o (cQ fz.2.1) (cQ f.2.1) (cQ d.2.1) (cQ g.2.1) B,r⟩
   ·by_cases hb:b=s.heap.objs.size
    ·subst hb;rw[jy]at q
     cases q
     exact⟨by show 2<=sizeLine;decide,[u1,u2],.cons ru1<|.cons ru2 .nil,⟨_,hT2,rfl,rfl,0,rfl⟩⟩
    ·rw[iS hb]at q;refine(I.hok b u' q).stay (λc v hc q'=>?_) (λc q'=>?_) λc ys q'=>?_
     ·have V:c≠z/\c≠TO/\c≠i1/\c≠i2:=by
       rcases hc with w|w
       ·rw[w];exact t b u' q
       ·exact t c _ w
      exact k2 c v V.1 V.2.1 V.2.2.1 V.2.2.2 q'
     ·rw[iS<|iZ q' fT];exact q'
     ·rw[iS<|iZ q' fT];exact q'
  refine⟨.ref s.heap.objs.size,_,I2,rfl,⟨s.heap.objs.size,fT,rfl,λxs' ys' x' y' hy1 hy2 e1 e2=>?_⟩,⟨he2,?_,⟨u1,u2,?_⟩,?_,?_⟩,λb hb=>?_⟩
  ·rw[I.rA hy1 U,hx]at e1;rw[I.rA hy2 W,hy]at e2
   cases e1;cases e2;rfl
  ·exact k2 TI _ D.TIz D.TITO D.TIi1 D.TIi2 Y
  ·exact O.extBut TO _ D.TOz hTO'
  ·exact h1'.at λo B=>O.extBut i1 o D.i1z B
  ·exact h2'.at λo B=>O.extBut i2 o D.i2z B
  ·have F:b=z\/b=TI\/b=TO\/b=i1\/b=i2:=by simpa using hb
   rcases F with rfl|rfl|rfl|rfl|rfl
   ·rw[iS<|br lz];exact fz.1
   ·rw[iS<|br lTI];exact fTI.1
   ·rw[iS<|br lTO];exact f.1
   ·rw[iS<|br li1];exact d.1
   ·rw[iS<|br li2];exact g.1
 done:=by
  z_go;subst hP hw hK;obtain⟨s1,Y,⟨a,b',s3⟩,s4,s5⟩:=st;obtain⟨xs,ys,U,W,hend⟩:=hg;obtain⟨Z,rv1,p1,hz1⟩:=I.list U;obtain⟨its2,rv2,p2,hz2⟩:=I.list W;have hl1:=rv1.length;have hl2:=rv2.length;have fz:=hf z (by simp);have f:=hf TO (by simp);have d:=hf i1 (by simp);have g:=hf i2 (by simp);have hend':Z.toArray[i]?=none\/its2.toArray[i]?=none:=by
   rcases hend with q|q
   ·left;rw[dW]at q;simp;lia
   ·right;rw[dW]at q;simp;lia
  refine wpAny_pyNext_zip_end (I.ok.hd hc) D s1 Y s3 s4 s5 p1.isList p2.isList hend' λh' hk=>⟨rfl,?_⟩;have C:∀b,b∉[z,TO,i1,i2]->b≠z/\b≠TO/\b≠i1/\b≠i2:=λb hb=>by simpa using hb
  have t:∀c v,H c=some v->c≠z/\c≠TO/\c≠i1/\c≠i2:=λc v q=>⟨(λw=>by rw[w,fz.1]at q;cases q),(λw=>by rw[w,f.1]at q;cases q),(λw=>by rw[w,d.1]at q;cases q),(λw=>by rw[w,g.1]at q;cases q)⟩;refine I.step (g':=s.gens) (d':=s.drawn) (t':=s.toks) (ch:=[z,TO,i1,i2]) (λb hb=>?_) (λb o _ _ j q _=>?_) (λb o _ _ j q _=>?_) (λb o j q n=>n) (λb o j q=>?_) (λb ys q=>q) (λb o u' q=>q) (λb ps q=>⟨#[],by rw[q];simp⟩) (λm hm=>?_) (λb u' q=>?_) I.bare
  ·have F:b=z\/b=TO\/b=i1\/b=i2:=by simpa using hb
   rcases F with rfl|rfl|rfl|rfl
   ·exact⟨fz.2.2.2.1,fz.2.1,fz.2.2.2.2.1,fz.2.2.2.2.2⟩
   ·exact⟨f.2.2.2.1,f.2.1,f.2.2.2.2.1,f.2.2.2.2.2⟩
   ·exact⟨d.2.2.2.1,d.2.1,d.2.2.2.2.1,d.2.2.2.2.2⟩
   ·exact⟨g.2.2.2.1,g.2.1,g.2.2.2.2.1,g.2.2.2.2.2⟩
  ·obtain⟨G,L,J,N⟩:=C b j;exact hk b o G L J N q
  ·obtain⟨G,L,J,N⟩:=C b j;exact⟨o.slots,hk b o G L J N q⟩
  ·obtain⟨G,L,J,N⟩:=C b j;exact⟨o,hk b o G L J N q⟩
  ·obtain⟨o,es,ep,B,r⟩:=hm;exact⟨o,es,ep,hk _ o (cQ fz.2.1) (cQ f.2.1) (cQ d.2.1) (cQ g.2.1) B,r⟩
  ·refine(I.hok b u' q).stay (λc v hc q'=>?_) (λc q'=>q') λc ys q'=>q';have V:c≠z/\c≠TO/\c≠i1/\c≠i2:=by
    rcases hc with w|w
    ·rw[w];exact t b u' q
    ·exact t c _ w
   exact hk c v V.1 V.2.1 V.2.2.1 V.2.2.2 q'
 self:=λ_ _ _ _ _ st h=>wpAny_pyIter_zip st.1 h
section
variable {X:Cx}
abbrev SW (K:aq)(ta:TA):TI:=λσ H R=>ta σ H λvs H1=>∃a b xs ys,vs=[.ref a,.ref b]/\kP K H1 a xs/\kP K H1 b ys/\R (TX K a b) H1
def OC{a b:aC}{ta:TA}{p:Pos}(hg:Gl X "zip")(hm:X.mg "zip" = none)(ha:PA X [a,b] ta)(hs:starEach [a,b] X.env=(false,eval a X.env)::starEach [b] X.env:=by rfl)(hpl:(backTo pos<|starEach [b] X.env).any (·.1)=false:=by rfl):PI X (.Tuple elts x1 tpos) (.Call (.Name "zip" p) [a,b] [] pos) (SW X.K ta):=by
 intro pins s σ H R I h;refine Call_<|qV I hg hm Pf<|cR (ki (ha pos pins s σ H _ I h) λus d ⟨vs,H1,I1,r1,q1⟩=>?_) hs hpl;obtain⟨V,t2,xs,ys,e,g,N,q⟩:=q1;subst e;obtain⟨u1,f,rfl,F,r2⟩:∃u f,us=u::f/\RelV (.ref V) u/\Vals [.ref t2] f:=by
  cases r1 with|cons h t=>exact⟨_,_,rfl,h,t⟩
 obtain⟨u2,rfl,m⟩:=vals1 r2
 cases F
 cases m
 obtain⟨P,Y,p1,Z⟩:=I1.list g;obtain⟨U,rv2,p2,hz2⟩:=I1.list N;refine call_zip_2 p1.isList p2.isList λh' W j B G z hsz hk=>?_;have I2:Inv X pins σ H1 { d with heap:=h' }:=I1.kept (t':=d.toks) hk;have L:V<d.heap.objs.size:=by obtain⟨o,O,_⟩:=p1.isList;exact aS O
 have C:t2<d.heap.objs.size:=by obtain⟨o,O,_⟩:=p2.isList;exact aS O
 have fr:∀k,H1 (d.heap.objs.size+k)=none:=λk=>I1.hok.fresh<|Nat.le_add_right _ k;refine wpAny_pyIter_zip W ⟨_,[d.heap.objs.size+4,d.heap.objs.size+2,d.heap.objs.size+3,d.heap.objs.size,d.heap.objs.size+1],_,_,H1,rfl,I2,Iz<|zipApart_new L C,⟨W,j,⟨_,_,B⟩,G,z⟩,λb hb=>?_,q⟩;have J:∃k,b=d.heap.objs.size+k:=by
  dsimp[bh,List.not_mem_nil,or_false]at hb
  rcases hb with rfl|rfl|rfl|rfl|rfl
  ·exact⟨4,rfl⟩
  ·exact⟨2,rfl⟩
  ·exact⟨3,rfl⟩
  ·exact⟨0,rfl⟩
  ·exact⟨1,rfl⟩
 obtain⟨k,rfl⟩:=J;exact I1.yk (Nat.le_add_right _ k)<|fr k
end
end L2
namespace L2
open PySem PySem.Spec PyProof.Rows
abbrev Qn (K:aq)(a:aj):It:=
 ⟨λi H=>∃xs x,kP K H a xs/\xs[i]?=some x,λi H x H'=>∃T,H T=none/\x=.ref T/\∀xs y,kP K H a xs->xs[i]?=some y->H'=upd H T (.tup [.int i,y]),λi H=>∃xs,kP K H a xs/\xs.length=i⟩
def CH{P:ah}{w:af}{K:aq}(a e it:aj)(hei:e≠it):Turn P w K (.Tuple elts x1 tpos) (Qn K a) [e,it] e (λi h=>(∃old,IsEnum h e it i old)/\h.IsListIter it a i) where
 mem:=by simp
 obj:=λi h st b hb=>by
  obtain⟨⟨old,f⟩,g⟩:=st;have J:b=e\/b=it:=by simpa using hb
  rcases J with rfl|rfl
  ·exact⟨_,f,λv z=>by cases z⟩
  ·obtain⟨o,e,c,d⟩:=g;exact⟨o,e,λv z=>by rw[d]at z;cases z⟩
 keep:=λi h h' st k=>by
  obtain⟨⟨old,f⟩,g⟩:=st;exact⟨⟨old,k e (by simp) _ f⟩,g.at λo B=>k it (by simp) o B⟩
 item:=by
  z_go;subst hP hw hK;obtain⟨⟨old,f⟩,g⟩:=st;obtain⟨xs,x,Z,hx⟩:=hg;obtain⟨C,rv,p,hz⟩:=I.list Z;obtain⟨u,hu,ru⟩:=rv.get hx;have N:a≠it:=by
   obtain⟨o,B,F,_⟩:=p.isList;obtain⟨o2,U,G,_⟩:=g;intro z;rw[z,U]at B
   cases B
   rw[F]at G;exact absurd (Value.type.inj G) ⋯
  have hea:e≠a:=by
   obtain⟨o,B,F,_⟩:=p.isList;intro z;rw[<- z,f]at B
   cases B
   exact absurd (Value.type.inj F) ⋯
  have hlt:i<C.toArray.size:=by
   rw[aP];exact(aJ.mp hu).1
  refine wpAny_pyNext_enum_itemD (Draws.list (A:=X.A.in1) (I.ok.hd hc) it a N C.toArray) f ⟨g,p.isList⟩ hlt hei (by simp[hei,hea]) λx' h' tk hP W hst hT hsz hk=>?_;have ex:x'=u:=by
   have:C.toArray[i]?=some u:=by simpa using hu
   rw[this]at hP;exact(aR hP).symm
  subst ex;refine⟨_,rfl,wpAny_letOwnedTupleGo_enum W λh2 he2 L=>?_⟩;have V:H s.heap.objs.size=none:=I.hok.fresh<|aL _;have Y:e<s.heap.objs.size:=aS f;have hil:it<s.heap.objs.size:=by obtain⟨o,B,_⟩:=g;exact aS B
  have k2:∀b o,b≠e->b≠it->s.heap.get? b=some o->h2.get? b=some o:=λb o h1 h3 q=>L.extBut b o h1<|hk b o h1 h3 q;have hT2:h2.get? s.heap.objs.size=some { cls:=.type "tuple",data:=.seq #[.int i tk,x']}:=L.extBut _ _ (gK Y) hT;obtain⟨e0,e1,e2,e3,e4,e5⟩:=hf e (by simp);obtain⟨i0,i1,i2,i3,i4,i5⟩:=hf it (by simp);have nT:∀b o,s.heap.get? b=some o->b≠s.heap.objs.size:=λb o q=>br<|aS q;have j:∀c v,H c=some v->c≠e/\c≠it:=λc v q=>⟨(λz=>by rw[z,e0]at q;cases q),(λz=>by rw[z,i0]at q;cases q)⟩;have I2:Inv X pins σ (upd H s.heap.objs.size<|.tup [.int i,x]) { s with heap:=h2,toks:=tk+1 }:=by
   refine I.step (g':=s.gens) (d':=s.drawn) (ch:=[e,it]) (λb hb=>?_) (λb o _ _ t q _=>?_) (λb o _ _ t q _=>?_) (λb o t q n=>?_) (λb o t q=>?_) (λb ys q=>?_) (λb o u' q=>?_) (λb ps q=>?_) (λm hm=>?_) (λb u' q=>?_) I.bare
   ·have J:b=e\/b=it:=by simpa using hb
    rcases J with rfl|rfl
    ·exact⟨e3,e1,e4,e5⟩
    ·exact⟨i3,i1,i4,i5⟩
   ·exact k2 b o (λz=>t<|by simp[z]) (λz=>t<|by simp[z]) q
   ·exact⟨o.slots,k2 b o (λz=>t<|by simp[z]) (λz=>t<|by simp[z]) q⟩
   ·rw[iS<|nT b o q];exact n
   ·exact⟨o,k2 b o (λz=>t<|by simp[z]) (λz=>t<|by simp[z]) q⟩
   ·rw[iS<|iZ q V];exact q
   ·rw[iS<|iZ q V];exact q
   ·exact⟨#[],by rw[iS<|iZ q V,q];simp⟩
   ·obtain⟨o,es,ep,B,r⟩:=hm;exact⟨o,es,ep,k2 _ o (cQ e1) (cQ i1) B,r⟩
   ·by_cases z:b=s.heap.objs.size
    ·subst z;rw[jy]at q
     cases q
     exact⟨by show 2<=sizeLine;decide,[.int i tk,x'],.cons ⟨tk,rfl⟩<|.cons ru .nil,⟨_,hT2,rfl,rfl,0,rfl⟩⟩
    ·rw[iS z]at q;refine(I.hok b u' q).stay (λc v hc q'=>k2 c v ?_ ?_ q') (λc q'=>?_) λc ys q'=>?_
     ·rcases hc with z|z
      ·rw[z];exact(j b u' q).1
      ·exact(j c _ z).1
     ·rcases hc with z|z
      ·rw[z];exact(j b u' q).2
      ·exact(j c _ z).2
     ·rw[iS<|iZ q' V];exact q'
     ·rw[iS<|iZ q' V];exact q'
  refine⟨.ref s.heap.objs.size,_,I2,rfl,⟨s.heap.objs.size,V,rfl,λys y hy O=>?_⟩,⟨⟨x',by simpa using he2⟩,?_⟩,λb hb=>?_⟩
  ·rw[I.rA hy Z]at O;rw[hx]at O
   cases O
   rfl
  ·exact hst.1.at λo B=>L.extBut it o (cQ hei) B
  ·have J:b=e\/b=it:=by simpa using hb
   rcases J with rfl|rfl
   ·rw[iS<|br Y];exact e0
   ·rw[iS<|br hil];exact i0
 done:=by
  z_go;subst hP hw hK;obtain⟨⟨old,f⟩,g⟩:=st;obtain⟨xs,Z,hx⟩:=hg;obtain⟨C,rv,p,hz⟩:=I.list Z;obtain⟨i0,i1,i2,i3,i4,i5⟩:=hf it (by simp);have N:a≠it:=by
   obtain⟨o,B,F,_⟩:=p.isList;obtain⟨o2,U,G,_⟩:=g;intro z;rw[z,U]at B
   cases B
   rw[F]at G;exact absurd (Value.type.inj G) ⋯
  have hl:=rv.length;have ei:C.toArray.size=i:=by rw[aP,<- hl,hx]
  exact wpAny_pyNext_enum_endD (Draws.list (A:=X.A.in1) (I.ok.hd hc) it a N C.toArray) f ⟨by rw[ei];exact g,p.isList⟩ λh' eb=>⟨rfl,I.turned (t':=s.toks) (λb o hb q=>eb b o hb q) i0 i1 i3 i4 i5⟩
 self:=λ_ _ _ _ _ st h=>let⟨⟨_,f⟩,_⟩:=st;wpAny_pyIter_enum f h
section
variable {X:Cx}
abbrev Pw (K:aq)(ta:TA):TI:=λσ H R=>ta σ H λvs H1=>∃a xs,vs=[.ref a]/\kP K H1 a xs/\R (Qn K a) H1
def HP{a:aC}{ta:TA}{p:Pos}(hg:Gl X "enumerate")(hm:X.mg "enumerate" = none)(ha:PA X [a] ta)(hs:starEach [a] X.env=[(false,eval a X.env)]:=by rfl):PI X (.Tuple elts x1 tpos) (.Call (.Name "enumerate" p) [a] [] pos) (Pw X.K ta):=by
 intro pins s σ H R I h;refine Call_<|qV I hg hm Aa<|cR (ki (ha pos pins s σ H _ I h) λus d ⟨vs,H1,I1,r1,m⟩=>?_) hs rfl;obtain⟨t,xs,e,G,q⟩:=m;subst e;obtain⟨u,rfl,rx⟩:=vals1 r1
 cases rx
 obtain⟨F,J,z,L⟩:=I1.list G;refine call_enumerate_list z.isList λh' k g B C=>?_;have I3:Inv X pins σ H1 { d with heap:=h' }:=I1.kept (t':=d.toks) C;have f:d.heap.objs.size+1≠d.heap.objs.size:=()
 refine wpAny_pyIter_enum k ⟨_,[_,d.heap.objs.size],_,_,H1,rfl,I3,CH t _ d.heap.objs.size f,⟨⟨.none,k⟩,g⟩,λb hb=>?_,q⟩;have j:b=d.heap.objs.size+1\/b=d.heap.objs.size:=by simpa using hb
 rcases j with rfl|rfl
 ·exact I1.yk (le_succ _) (I1.hok.fresh<|le_succ _)
 ·kl_no
end
def Hu{X:Cx}{i:Nat}{spos:Pos}{iter:aC}{N:am}{wi:TI}{g:TG}{tc:TT}{te:TE}
  (hN:X.N.Nodup) (hi':X.N[i]?=some y) (hx:Loc X.env.scope y) (hc:X.calm=true) (S:CpScope X scope N cap) (hi:PI X tg iter wi)
  (hg:∀C s₀ H₀ ex,PG (jk X scope N C s₀ H₀ ex) tg g) (ht:∀C s₀ H₀ ex,CQ (jk X scope N C s₀ H₀ ex) ifs tc) (he:∀C s₀ H₀ ex,PE (jk X scope N C s₀ H₀ ex) elt te)
  (hsw:swapsWith (.ListComp elt [⟨tg,iter,ifs,0⟩] scope pos) (some<|.Name y py) spos.line X.env=pure true)
  (hf:X.fn y=true\/X.env.scope.names.lookup y=some .local) (hs:∀x,foldedSetIterable iter X.env x=pure x:=by intro _;rfl) :
  PS X (.Assign [.Name y py] (.ListComp elt [⟨tg,iter,ifs,0⟩] scope pos) spos) (IX (Q4 cap wi g tc te)<|ED i):=by
 kst_p;rw[exec_Assign_Name_used _ _ _ _ hsw];refine aI (cz<|aI ?_)
 skip
 refine aI<|cE (Fv (ok:=λY=>Y.calm=true) (Q':=λ_ s'=>SP X pins D .next s') S (λ_ _ _ _ _=>hc) (PI.g hi) hg ht he hs pins s σ H _ I h ?_) (λ_ s' U=>aM<|aM U) λ_ _ e=>e;intro F C G H5 m hn j t q v;have O:=t F.heap<|Heap.SameBut.refl _ _;obtain⟨K,f⟩:∃o,F.heap.get? C=some o/\∀v,o.data≠.cell v:=by
  obtain⟨o,es,V,e,d,_⟩:=hn;exact⟨o,e,λv z=>by rw[d]at z;cases z⟩
 have P:=O.pinned (fp:=[C]) (λb hb=>by rw[aW]at hb;rw[hb];exact j) (λb hb=>by rw[aW]at hb;rw[hb];exact⟨K,f⟩)
 skip
 refine ki (Ar hN hi' hx hf _ F σ H5 (.ref G) (.ref G) _ P rfl q) λ_ s7 h9=>?_;obtain⟨B,H7,I7,L⟩:=h9;have hp:=I7.pin (C,K)<|aU _<|aU _<|jK (aW.mpr rfl) f.1;refine⟨m,hn.at' λo e=>by rw[f.1]at e;cases e;exact hp.1,λh' k=>?_⟩;have J:∀c v,H7 c=some v->c≠C:=λc v e z=>by rw[z,hp.2.1]at e;cases e
 refine⟨B,H7,?_,L⟩;refine I7.lI.BA (ch:=[C]) rfl ⟨λb o e n hb hx=>?_,λb o e n hb hx=>?_,λb o e n hx=>n,λb o e hx=>?_,λ_ _ e=>e,λ_ _ _ e=>e,λ_ _ e=>⟨#[],by rw[Array.append_empty];exact e⟩⟩ ?_ I7.bare ?_
 ·exact k.extBut b o (by simpa using hx) e
 ·exact⟨o.slots,k.extBut b o (by simpa using hx) e⟩
 ·exact⟨o,k.extBut b o (by simpa using hx) e⟩
 ·intro b o e;refine(I7.hok b o e).stay (λc v hc q=>k.extBut c v ?_ q) (λ_ q=>q) λ_ _ q=>q
  rcases hc with z|z
  ·rw[z];exact J b o e
  ·exact J c _ z
 ·intro b hb;rw[aW]at hb;rw[hb];exact⟨j.2.2.2.1,j.2.1,j.2.2.2.2.1,j.2.2.2.2.2⟩
abbrev SK (lo:Int)(n:Nat):It:=⟨λi _=>i<n,λi H x H'=>H'=H/\x=.int (lo-i),λi _=>n<=i⟩
def GR{P:ah}{w:af}{K:aq}(it:aj)(lo:Int)(n:Nat):Turn P w K tg (SK lo n) [it] it (λi h=>IsRangeIter h it (lo+(i:Nat) * (-1)) ((n:Int)-(i:Nat))<|-1) where
 mem:=by simp
 obj:=λi h st b hb=>by
  have e:b=it:=by simpa using hb
  subst e;exact⟨_,st,λv z=>by
   have g:Data.fields _=Data.cell v:=z
   cases g⟩
 keep:=λi h h' st k=>k it (by simp) _ st
 item:=by
  z_go;subst hP hw hK;w_up;have W:=Walks.range (prog:=X.prog) (w:=X.w) (I.ok.hd hc) it lo (-1) n;refine W.item i s _ _ hg st λv h' f hv d kk=>?_;obtain⟨t,rfl⟩:=hv;have I1:Inv X pins σ H { s with heap:=h',toks:=f }:=I.turned (λb o hb e=>kk b o (by simpa using hb) e) f0 f1 f3 f4 f5;refine⟨_,rfl,yW (s:={ s with heap:=h',toks:=f }) (n := "range_iterator") d rfl rfl ⋯ ⟨.int<|lo-i,H,I1,⟨t,?_⟩,⟨rfl,rfl⟩,d,λb hb=>(hf b hb).1⟩⟩;rw[show lo+(i:Int) * (-1)=lo-i by lia]
 done:=by
  z_go;subst hP hw hK;w_up;exact wpAny_pyNext_range_end (I.ok.hd hc) st (by have:n<=i:=hg;lia) λh' j=>⟨rfl,I.turned (t':=s.toks) (λb o hb e=>j b o hb e) f0 f1 f3 f4 f5⟩
 self:=λ_ _ _ _ _ st h=>wpAny_pyIter_rangeiter st h
def zo(a b:Int):Builtin.Range.rangeSize a b (-1)=if a>b then a-b else 0:=by
 unfold Builtin.Range.rangeSize;dsimp[show ¬((-1:Int)>0)by decide,eG,Int.neg_neg,ediv_one];split<;>lia
def small_down{a b:Int}(ha:-(2 ^ 62)<=a)(ha':a<2 ^ 62)(hb:-(2 ^ 62)<=b)(hb':b<2 ^ 62):Builtin.Range.small a b (-1)=true:=by
 unfold Builtin.Range.small;rw[zo];dsimp[Builtin.Range.rangeFitsLong,bE,iA,d_,iy,show ¬((-1:Int)>0)by decide,eG];split<;>lia
section
variable {X:Cx}{tg:aC}
def Ml{H:Hp}{s:aA}{R:It->Hp->Prop}{E:aa->aA->Prop}{lo hi:Int}{v:Tok}{tk:Nat}(I:Inv X pins σ H s)(h1:-(2 ^ 62)<=lo)(h2:lo<2 ^ 62)(h3:-(2 ^ 62)<=hi)(h4:hi<2 ^ 62)
  (q:R (SK lo (lo-hi).toNat) H):wpAny (model X.prog X.w) X.A (pyIter<|.ref s.heap.objs.size) (T7 X pins σ tg R) E { s with heap:=s.heap.push { cls:=.type "range",data:=.fields #[.int lo t,.int hi u,.int (-1) v]},toks:=tk }:=by
 refine wpAny_pyIter_range (IsRange.new ..) (small_down h1 h2 h3 h4) ?_;have I1:Inv X pins σ H { s with heap:=s.heap.push { cls:=.type "range",data:=.fields #[.int lo t,.int hi u,.int (-1) v]},toks:=tk }:=I.kept λb o e=>aK _ e;refine⟨(s.heap.push { cls:=.type "range",data:=.fields #[.int lo t,.int hi u,.int (-1) v]}).objs.size,[(s.heap.push { cls:=.type "range",data:=.fields #[.int lo t,.int hi u,.int (-1) v]}).objs.size],_,_,H,rfl,
  I1.kept (t':=tk) λb o e=>aK _ e,GR _ lo (lo-hi).toNat,?_,λb hb=>?_,q⟩
 ·have e1:lo+((0:Nat):Int) * (-1)=lo:=by simp
  have e2:(((lo-hi).toNat:Nat):Int)-((0:Nat):Int)=Builtin.Range.rangeSize lo hi (-1):=by rw[zo];split<;>lia
  skip
  rw[e1,e2];exact bC _ rfl
 ·have e:b=(s.heap.push { cls:=.type "range",data:=.fields #[.int lo t,.int hi u,.int (-1) v]}).objs.size:=by simpa using hb
  subst e;kl_no
abbrev Sv (ta:TA):TI:=λσ H R=>ta σ H λvs H1=>∃i j:Int,vs=[.int i,.int j,.int<|-1]/\(-(2 ^ 62)<=i/\i<2 ^ 62/\-(2 ^ 62)<=j/\j<2 ^ 62)/\R (SK i (i-j).toNat) H1
def Nq{a:aC}{ta:TA}{p:Pos}(hg:Gl X "range")(hm:X.mg "range" = none)(ha:PA X [a,b,c] ta)(hs:starEach [a,b,c] X.env=[(false,eval a X.env),(false,eval b X.env),(false,eval c X.env)]:=by rfl)(hs2:starEach [b,c] X.env=[(false,eval b X.env),(false,eval c X.env)]:=by rfl) :
  PI X tg (.Call (.Name "range" p) [a,b,c] [] pos) (Sv ta):=by
 intro pins s σ H R I h;refine Call_ (qV I hg hm boot_range<|cR (ki (ha pos pins s σ H _ I h) λus F ⟨vs,H1,I1,r1,f⟩=>?_) (by rw[hs,hs2])<|by rw[hs2];rfl);obtain⟨i,j,e,⟨f,B,z,C⟩,q⟩:=f;subst e
 cases r1 with
 | cons r d=>
  cases d with
  | cons k d=>
   cases d with
   | cons g d=>
    cases d
    obtain⟨t,rfl⟩:=r;obtain⟨G,rfl⟩:=k;obtain⟨m,rfl⟩:=g;exact call_range_3 ⋯ (Ml I1 f B z C q)
end
end L2
namespace Sx
open PySem PyProof.Rows
structure Ord where
 lt:Nat->Nat->Bool
 irr:∀i,lt i i=false
 tr:∀i j k,lt i j=true->lt j k=true->lt i k=true
 neg:∀i j k,lt i k=true->lt i j=true\/lt j k=true
abbrev P (o:Ord)(i j:Nat):Prop:=o.lt i j=true\/(o.lt j i=false/\i<j)
abbrev So (o:Ord)(g:Nat->Nat)(a b:Nat):Prop:=∀i j,a<=i->i<j->j<b->P o (g i) (g j)
abbrev Cl (g:Nat->Nat)(a b:Nat):Prop:=∀i,a<=i->i<b->a<=g i/\g i<b
section
variable {o:Ord}{N:Nat}{f:Nat->Keyed}{kd:SortKind}{g:Nat->Nat}{p:Array (Nat×Nat×Nat)}{st:SortSt}
structure Sg (N:Nat)(f:Nat->Keyed)(kd:SortKind)(g:Nat->Nat)(p:Array (Nat×Nat×Nat))(st:SortSt):Prop where
 size:(arrOf st).size=N
 get:∀i,i<N->(arrOf st)[i]?=some (f<|g i)
 lt:∀i,i<N->g i<N
 kind:kindOf st=kd
 failed:failedOf st=none
 pend:pendingOf st=p
structure Rn (o:Ord)(g0 g:Nat->Nat)(a b:Nat):Prop where
 out:∀i,i<a\/b<=i->g i=g0 i
 cl:Cl g a b
 so:So o g a b
end
section
variable {o:Ord}{g g0:Nat->Nat}
structure Dc (o:Ord)(g0 g:Nat->Nat)(a b q:Nat):Prop where
 out:∀i,i<a\/b<=i->g i=g0 i
 cl:Cl g a b
 few:a+(q+1)<=b
 dn:∀i j,a<=i->i<j->j<b->i<b-(q+1)->P o (g j) (g i)
 id:∀i,b-(q+1)<=i->i<b->g i=i
 al:∀i j,b-(q+1)<=i->i<b->b-(q+1)<=j->j<b->o.lt i j=false
abbrev Fin (o:Ord)(g0 g:Nat->Nat)(a b:Nat):Prop:=(∀i,i<a\/b<=i->g i=g0 i)/\Cl g a b/\(∀i j,a<=i->i<j->j<b->P o (g j) (g i))
end
abbrev DB:Bool->Keyed->Array Keyed->Nat->Nat->Nat->StateT SortSt Sem (bo):=sortPriv% PySem.Builtin.gallop
abbrev Se:Nat->StateT SortSt Sem Unit:=sortPriv% PySem.Builtin.setMinGallop
section
variable {o:Ord}{N:Nat}{f:Nat->Keyed}{A B hs:ag}{ia ib:Nat}
abbrev fa (f:Nat->Keyed)(l:ag):Array Keyed:=(l.map f).toArray
structure Ab (o:Ord)(N:Nat)(A B:ag):Prop where
 sa:A.Pairwise (P o)
 sb:B.Pairwise (P o)
 lt:∀x∈A,∀y∈B,x<y
 nb:∀y∈B,y<N
 na:∀x∈A,x<N
structure Mg (o:Ord)(A B hs:ag)(ia ib:Nat):Prop where
 la:ia<=A.length
 lb:ib<=B.length
 len:hs.length=ia+ib
 so:hs.Pairwise (P o)
 mem:∀x∈hs,x∈A\/x∈B
 ua:∀x∈hs,∀y∈A.drop ia,P o x y
 ub:∀x∈hs,∀y∈B.drop ib,P o x y
abbrev Res (o:Ord)(f:Nat->Keyed)(A B:ag)(out:Array Keyed):Prop:=∃hs:ag,out=fa f hs/\hs.length=A.length+B.length/\hs.Pairwise (P o)/\∀x∈hs,x∈A\/x∈B
end
structure Sm (st st':SortSt):Prop where
 a:arrOf st'=arrOf st
 k:kindOf st'=kindOf st
 p:pendingOf st'=pendingOf st
 f:failedOf st'=failedOf st
meta abbrev G:=Option (Array Keyed)×Array Keyed×Nat×Nat×Nat×Nat×Nat
abbrev T3 (a b out:Array Keyed)(ia ib mg ac bc:Nat):StateT SortSt Sem (ForInStep G):=do
 let x <- elem' a ia
 if (ia+1+1 == a.size)=true then pure (ForInStep.done (some<|out.push x++b.extract ib b.size++a.extract (ia+1) a.size,out.push x,ia+1,ib,mg,ac,bc))
 else if (decide (ac<7) && decide (bc<7))=true then pure (ForInStep.done (none,out.push x,ia+1,ib,mg,ac,bc))
 else pure (ForInStep.yield (none,out.push x,ia+1,ib,mg,ac,bc))
abbrev T2 (a b out:Array Keyed)(ia ib mg ac bc:Nat):StateT SortSt Sem (ForInStep G):=do
 let x <- elem' b ib
 if (ib+1 == b.size)=true then pure (ForInStep.done (some<|out.push x++a.extract ia a.size++b.extract (ib+1) b.size,out.push x,ia,ib+1,mg,ac,bc))
 else
  let y <- elem' a ia
  let r <- DB true y b (ib+1) (b.size-(ib+1)) 0
  match r with
  | some k=>
   if k>0 then
    if (ib+1+k == b.size)=true then pure (ForInStep.done (some<|out.push x++b.extract (ib+1) (ib+1+k)++a.extract ia a.size++b.extract (ib+1+k) b.size,out.push x++b.extract (ib+1) (ib+1+k),ia,ib+1+k,mg,ac,k))
    else T3 a b (out.push x++b.extract (ib+1) (ib+1+k)) ia (ib+1+k) mg ac k
   else T3 a b (out.push x) ia (ib+1) mg ac k
  | _=>pure<|ForInStep.done (some<|out.push x++a.extract ia a.size++b.extract (ib+1) b.size,out.push x,ia,ib+1,mg,ac,bc)
abbrev T1 (a b out:Array Keyed)(ia ib mg ac bc:Nat):StateT SortSt Sem (ForInStep G):=do
 Se mg
 let x <- elem' b ib
 let r <- DB false x a ia (a.size-ia) 0
 match r with
 | some k=>
  if k>0 then
   if (ia+k+1 == a.size)=true then pure (ForInStep.done (some<|out++a.extract ia (ia+k)++b.extract ib b.size++a.extract (ia+k) a.size,out++a.extract ia (ia+k),ia+k,ib,mg,k,bc))
   else if (ia+k == a.size)=true then pure (ForInStep.done (some<|out++a.extract ia (ia+k)++a.extract (ia+k) a.size++b.extract ib b.size,out++a.extract ia (ia+k),ia+k,ib,mg,k,bc))
   else T2 a b (out++a.extract ia (ia+k)) (ia+k) ib mg k bc
  else T2 a b out ia ib mg k bc
 | _=>pure<|ForInStep.done (some<|out++a.extract ia a.size++b.extract ib b.size,out,ia,ib,mg,ac,bc)
section
variable {o:Ord}{A B ts:ag}{na nb:Nat}
structure Mh (o:Ord)(A B ts:ag)(na nb:Nat):Prop where
 la:na<=A.length
 lb:nb<=B.length
 len:ts.length+na+nb=A.length+B.length
 so:ts.Pairwise (P o)
 mem:∀x∈ts,x∈A\/x∈B
 ua:∀y∈A.take na,∀x∈ts,P o y x
 ub:∀y∈B.take nb,∀x∈ts,P o y x
end
meta abbrev H:=Option (Array Keyed)×Nat×Nat×Array Keyed×Nat×Nat×Nat
section
variable {o:Ord}{f:Nat->Keyed}{st0:SortSt}{X Y ts:ag}{na nb:Nat}
abbrev Oh (o:Ord)(X Y:ag)(n:Nat)(ts:ag)(na nb:Nat):Prop:=Mh o X Y ts na nb/\1<=na/\2<=nb/\na+nb+n<=X.length+Y.length
abbrev H2 (o:Ord)(f:Nat->Keyed)(X Y:ag)(n:Nat)(st0:SortSt):ForInStep H->SortSt->Prop:=λr d=>Sm st0 d/\match r with
 | .done c=>(∃r z,c=(some r,z)/\Res o f X Y r)\/∃ts na nb mg j g,c=(none,na,nb,fa f ts.reverse,mg,j,g)/\Oh o X Y n ts na nb
 | .yield c=>∃ts na nb mg j g,c=(none,na,nb,fa f ts.reverse,mg,j,g)/\Oh o X Y n ts na nb
end
meta abbrev pr (x:Nat×Nat×Nat):Nat×Nat:=(x.1,x.2.1)
abbrev R0 (o:Ord)(g:Nat->Nat):List (Nat×Nat)->Nat->Nat->Prop
 | [],a,b=>a=b
 | x::l,a,b=>x.1=a/\1<=x.2/\Cl g a (a+x.2)/\So o g a (a+x.2)/\R0 o g l (a+x.2) b
abbrev PA (o:Ord)(g:Nat->Nat)(p:Array<|Nat×Nat×Nat)(b:Nat):Prop:=R0 o g (p.toList.map pr) 0 b
meta abbrev vv (vs:ar)(i:Nat):Keyed:=(vs.getD i .none,vs.getD i .none)
end Sx
namespace Am
open PySem
inductive A where
 | unb|jC|bl (b:Bool)|int (i:Int)|str (x:Str)|tup (xs:List A)|frz (xs:List A)|rng (lo hi:Int)|ref (n:Nat)|exn (c:Str)|ty (n:String)|ktu (xs:List A)
@[reducible]def ad:=List A
inductive O where
 | lst (xs:ad)|dct (kvs:List<|ae×A)|pW (kvs:List<|Int×A)|dcp (kvs:List<|L2.Hg×A)|ins (c:Str) (fs:List<|Str×A)
meta abbrev iM:=List O
inductive R (α:Type) where
 | ok (a:α) (S:iM)|ex (c:Str) (S:iM)|no
abbrev R.bind {α β:Type}(r:R α)(f:α->iM->R β):R β:=match r with
 | .ok a S=>f a S
 | .ex c S=>.ex c S
 | .no=>.no
abbrev R.post {α:Type}(r:R α)(P:α->iM->Prop)(E:Str->iM->Prop):Prop:=match r with
 | .ok a S=>P a S
 | .ex c S=>E c S
 | .no=>False
def iT{α β:Type}{r:R α}{f:α->iM->R β}{P:β->iM->Prop}{E:Str->iM->Prop}(h:(r.bind f).post P E):r.post (λa S=>(f a S).post P E) E:=by
 cases r<;>exact h
theorem se{α:Type}{r:R α}{P P':α->iM->Prop}{E E':Str->iM->Prop}(h:r.post P E)(hp:∀a S,P a S->P' a S)(he:∀c S,E c S->E' c S):r.post P' E':=by
 cases r with
 | ok a S=>exact hp _ _ h
 | ex c S=>exact he _ _ h
 | no=>exact h.elim
abbrev gd {α:Type}(c:Prop)[Decidable c](r:R α):R α:=if c then r else .no
abbrev opt {α β:Type}(o:Option β)(f:β->R α):R α:=match o with
 | some b=>f b
 | none=>.no
def jd{α:Type}{c:Prop}[Decidable c]{r:R α}{P:α->iM->Prop}{E:Str->iM->Prop}(h:(gd c r).post P E):c/\r.post P E:=by
 unfold gd at h;by_cases hc:c
 ·rw[bf hc]at h;exact⟨hc,h⟩
 ·rw[bu hc]at h;exact h.elim
def iV{α β:Type}{o:Option β}{f:β->R α}{P:α->iM->Prop}{E:Str->iM->Prop}(h:(opt o f).post P E):∃b,o=some b/\(f b).post P E:=by
 cases o with
 | none=>exact h.elim
 | some b=>exact⟨b,rfl,h⟩
abbrev iG (S:iM)(n:Nat):Option (ad):=match S[n]? with
 | some (.lst xs)=>some xs
 | _=>none
def iW{n:Nat}(h:iG S n=some xs):S[n]?=some (.lst xs):=by
 unfold iG at h;split at h
 ·rename_i e;cases h;exact e
 ·cases h
def uH{S:iM}{n:Nat}(h:S[n]?=some (.lst xs)):iG S n=some xs:=by
 unfold iG;rw[h]
inductive RS where
 | nx (τ:ad) (S:iM)|rt (a:A) (S:iM)|bk (τ:ad) (S:iM)|ct (τ:ad) (S:iM)|ex (c:Str) (S:iM)|no
meta abbrev Ex:=ad->iM->R A
meta abbrev qJ:=ad->iM->R (ad)
meta abbrev Te:=ad->iM->R Bool
meta abbrev Sm:=ad->iM->RS
meta abbrev Tg:=A->ad->iM->R (ad)
end Am
namespace Am
open PySem L2
section
variable (K:aq) (ρ:ba) (H:Hp)
abbrev Cr (K:aq)(c:Str)(C:aj):Prop:=PySem.W.nsIn K mainGlobals c=some (some<|.ref C)
abbrev Fz (K:aq)(H:Hp)(a:aj)(vs:List V):Prop:=
 (∃o,H a=some (.frz o<|.lst vs))\/∃(o:Obj) (d:Array aa) (n:Nat),K.lookup a=some o/\o.cls=.type "list" /\ o.dict=none/\o.data=.seq d n/\d.size<=sizeLine/\Vals vs d.toList
abbrev Vr (K:aq)(a:aj)(vs:List V):Prop:=∃(o:Obj) (d:Array aa) (n:Nat),K.lookup a=some o/\o.cls=.type "tuple" /\ o.dict=none/\o.data=.seq d n/\d.size<=sizeLine/\Vals vs d.toList
mutual
inductive AV:A->V->Prop
 | jC:AV .jC .jC
 | bl (b:Bool):AV (.bl b) (.bl b)
 | int (i:Int):AV (.int i) (.int i)
 | str (x:Str):AV (.str x) (.str x)
 | ty (n:String):AV (.ty n) (.ty n)
 | tup {a:aj} {xs:ad} {vs:List V} (h:H a=some (.tup vs)) (r:AVs xs vs):AV (.tup xs) (.ref a)
 | frz {a:aj} {xs:ad} {vs:List V} (h:Fz K H a vs) (r:AVs xs vs):AV (.frz xs) (.ref a)
 | rng {a:aj} {lo hi:Int} (h:H a=some (.rng lo hi)):AV (.rng lo hi) (.ref a)
 | ref {a:aj} {n:Nat} (h:ρ[n]?=some a):AV (.ref n) (.ref a)
 | exn {a C:aj} {c:Str} {oe:Obj} (n:Cr K c C) (h:H a=some (.frz oe xu)) (x:XO C oe):AV (.exn c) (.ref a)
 | ktu {a:aj} {xs:ad} {vs:List V} (h:Vr K a vs) (r:AVs xs vs):AV (.ktu xs)<|.ref a
inductive AVs:ad->List V->Prop
 | nil:AVs [] []
 | cons {x:A} {v:V} {xs:ad} {vs:List V} (h:AV x v) (t:AVs xs vs):AVs (x::xs) (v::vs)
end
abbrev DV:List (ae×A)->List (List Key×V)->Prop
 | [],[]=>True
 | p::r,q::r'=>(q.1=p.1.map Sum.inl/\AV K ρ H p.2 q.2)/\DV r r'
 | _,_=>False
abbrev DI:List (Int×A)->List (Key×V)->Prop
 | [],[]=>True
 | p::r,q::r'=>(q.1=Sum.inl p.1/\AV K ρ H p.2 q.2)/\DI r r'
 | _,_=>False
abbrev DP:List (L2.Hg×A)->List (L2.Hg×aj×aa)->Prop
 | [],[]=>True
 | p::r,q::r'=>(q.1=p.1/\L2.AZ H q.2.1 q.1/\∃v,RelV v q.2.2/\AV K ρ H p.2 v)/\DP r r'
 | _,_=>False
abbrev OR (a:aj):O->Prop
 | .lst xs=>∃vs,H a=some (.lst vs)/\AVs K ρ H xs vs
 | .dct kvs=>∃ks,H a=some (.dT ks)/\DV K ρ H kvs ks
 | .pW kvs=>∃ks,H a=some (.dK ks)/\DI K ρ H kvs ks
 | .dcp kvs=>∃xs,H a=some (.ext<|L2.Ui a xs)/\DP K ρ H kvs xs
 | .ins _ _=>∃o u,H a=some (.frz o u)
structure Rel (S:iM):Prop where
 len:ρ.length=S.length
 nd:ρ.Nodup
 «at»:∀(n:Nat) (a:aj) (o:O),ρ[n]?=some a->S[n]?=some o->OR K ρ H a o
end
abbrev Vn:HO->Prop
 | .tup _=>True
 | .rng _ _=>True
 | .frz _ _=>True
 | _=>False
structure Ext0 (ρ ρ':ba)(H H':Hp):Prop where
 pre:ρ <+: ρ'
 im:∀a u,Vn u->H a=some u->H' a=some u
structure Ext (ρ ρ':ba)(H H':Hp):Prop extends Ext0 ρ ρ' H H' where
 fr:∀a u,H a=some u->a∉ρ->H' a=some u
 nw:∀a,a∈ρ'->a∈ρ\/H a=none
def Ext.refl{H:Hp}:Ext ρ ρ H H:=⟨⟨dR _,λ_ _ _ h=>h⟩,λ_ _ h _=>h,λ_ h=>.inl h⟩
def Ext.trans{H H1 H2:Hp}(a:Ext ρ ρ1 H H1)(b:Ext ρ1 ρ2 H1 H2):Ext ρ ρ2 H H2:=⟨⟨a.pre.trans b.pre,λx u i h=>b.im x u i<|a.im x u i h⟩,λx u h n=>b.fr x u (a.fr x u h n) λz=>(a.nw x z).elim n λz=>by(rw[z]at h;cases h),λx h=>by
 by_cases hx:x∈ρ
 ·exact .inl hx
 ·right
  cases q:H x with
  | none=>rfl
  | some u=>
   rcases b.nw x h with z|z
   ·exact((a.nw x z).elim hx λz=>by(rw[z]at q;cases q)).elim
   ·rw[a.fr x u q hx]at z;cases z⟩
def Ext0.get{H H':Hp}(e:Ext0 ρ ρ' H H'){n:Nat}{a:aj}(h:ρ[n]?=some a):ρ'[n]?=some a:=by
 obtain⟨t,rfl⟩:=e.pre;rw[aT (aJ.mp h).1];exact h
section
variable {K:aq}{ρ ρ':ba}{H H':Hp}
def Ext0.U4(e:Ext0 ρ ρ' H H'){a:aj}(h:m8 K H a vs):m8 K H' a vs:=by
 rcases h with(h|⟨o,h⟩)|h
 ·exact .inl (.inl<|e.im _ _ trivial h)
 ·exact .inl (.inr ⟨o,e.im _ _ trivial h⟩)
 ·exact .inr h
def Ext0.fz(e:Ext0 ρ ρ' H H'){a:aj}(h:Fz K H a vs):Fz K H' a vs:=by
 rcases h with⟨o,h⟩|h
 ·exact .inl ⟨o,e.im _ _ trivial h⟩
 ·exact .inr h
def Fz.LR{a:aj}(h:Fz K H a vs):kP K H a vs:=by
 rcases h with⟨o,h⟩|h
 ·exact .inl (.inr ⟨o,h⟩)
 ·exact .inr h
mutual
theorem AV.kQ(e:Ext0 ρ ρ' H H'):∀{x:A}{v:V},AV K ρ H x v->AV K ρ' H' x v
 | _,_,.jC=>.jC
 | _,_,.bl b=>.bl b
 | _,_,.int i=>.int i
 | _,_,.str x=>.str x
 | _,_,.ty x=>.ty x
 | _,_,.tup h r=>.tup (e.im _ _ trivial h) (AVs.kQ e r)
 | _,_,.frz h r=>.frz (e.fz h) (AVs.kQ e r)
 | _,_,.rng h=>.rng (e.im _ _ trivial h)
 | _,_,.ref h=>.ref (e.get h)
 | _,_,.exn n h x=>.exn n (e.im _ _ trivial h) x
 | _,_,.ktu h r=>.ktu h<|AVs.kQ e r
theorem AVs.kQ(e:Ext0 ρ ρ' H H'):∀{xs:ad}{vs:List V},AVs K ρ H xs vs->AVs K ρ' H' xs vs
 | _,_,.nil=>.nil
 | _,_,.cons h t=>.cons (AV.kQ e h)<|AVs.kQ e t
end
theorem DV.kQ(e:Ext0 ρ ρ' H H'):∀{xs:List<|ae×A}{vs:List<|List Key×V},DV K ρ H xs vs->DV K ρ' H' xs vs
 | [],[],_=>trivial
 | _::_,_::_,⟨⟨a,b⟩,r⟩=>⟨⟨a,AV.kQ e b⟩,DV.kQ e r⟩
def DV.ext{x:List<|ae×A}{v:List<|List Key×V}(h:DV K ρ H x v)(e:Ext ρ ρ' H H'):DV K ρ' H' x v:=DV.kQ e.toExt0 h
theorem DI.kQ(e:Ext0 ρ ρ' H H'):∀{xs:List<|Int×A}{vs:List<|Key×V},DI K ρ H xs vs->DI K ρ' H' xs vs
 | [],[],_=>trivial
 | _::_,_::_,⟨⟨a,b⟩,r⟩=>⟨⟨a,AV.kQ e b⟩,DI.kQ e r⟩
def DI.ext{x:List<|Int×A}{v:List<|Key×V}(h:DI K ρ H x v)(e:Ext ρ ρ' H H'):DI K ρ' H' x v:=DI.kQ e.toExt0 h
def AZ.kQ{k:L2.Hg}(e:Ext0 ρ ρ' H H'):L2.AZ H b k->L2.AZ H' b k:=λ⟨r1,r2,h1,d,f⟩=>⟨r1,r2,e.im _ _ trivial h1,e.im _ _ trivial d,e.im _ _ trivial f⟩
theorem DP.kQ(e:Ext0 ρ ρ' H H'):∀{xs:List<|L2.Hg×A}{vs:List<|L2.Hg×aj×aa},DP K ρ H xs vs->DP K ρ' H' xs vs
 | [],[],_=>trivial
 | _::_,_::_,⟨⟨a,k,v,c,b⟩,r⟩=>⟨⟨a,AZ.kQ e k,v,c,AV.kQ e b⟩,DP.kQ e r⟩
def DP.ext{x:List<|L2.Hg×A}{v:List<|L2.Hg×aj×aa}(h:DP K ρ H x v)(e:Ext ρ ρ' H H'):DP K ρ' H' x v:=DP.kQ e.toExt0 h
def AV.ext{x:A}{v:V}(h:AV K ρ H x v)(e:Ext ρ ρ' H H'):AV K ρ' H' x v:=AV.kQ e.toExt0 h
def AVs.ext{x:ad}{v:List V}(h:AVs K ρ H x v)(e:Ext ρ ρ' H H'):AVs K ρ' H' x v:=AVs.kQ e.toExt0 h
theorem AVs.length:∀{xs:ad}{vs:List V},AVs K ρ H xs vs->xs.length=vs.length
 | _,_,.nil=>rfl
 | _,_,.cons _ t=>b_ (·+1)<|AVs.length t
theorem AVs.append:∀{xs ys:ad}{vs ws:List V},AVs K ρ H xs vs->AVs K ρ H ys ws->AVs K ρ H (xs++ys) (vs++ws)
 | _,_,_,_,.nil,s=>s
 | _,_,_,_,.cons h t,s=>.cons h<|AVs.append t s
theorem AVs.take:∀{xs:ad}{vs:List V}(n:Nat),AVs K ρ H xs vs->AVs K ρ H (xs.take n) (vs.take n)
 | _,_,0,_=>.nil
 | _,_,_+1,.nil=>.nil
 | _,_,n+1,.cons h t=>.cons h<|AVs.take n t
theorem AVs.drop:∀{xs:ad}{vs:List V}(n:Nat),AVs K ρ H xs vs->AVs K ρ H (xs.drop n) (vs.drop n)
 | _,_,0,r=>r
 | _,_,_+1,.nil=>.nil
 | _,_,n+1,.cons _ t=>AVs.drop n t
theorem AVs.reverse:∀{xs:ad}{vs:List V},AVs K ρ H xs vs->AVs K ρ H xs.reverse vs.reverse
 | _,_,.nil=>.nil
 | _,_,.cons h t=>by rw[fV,fV];exact(AVs.reverse t).append (.cons h .nil)
theorem AVs.get:∀{xs:ad}{vs:List V}{i:Nat}{x:A},AVs K ρ H xs vs->xs[i]?=some x->∃v,vs[i]?=some v/\AV K ρ H x v
 | _,_,_,_,.nil,e=>by simp at e
 | _,_,0,_,.cons h _,e=>by simp at e;subst e;exact⟨_,rfl,h⟩
 | _,_,i+1,x,.cons _ t,e=>by
  obtain⟨u,h1,d⟩:=AVs.get (i:=i) (x:=x) t (by simpa using e);exact⟨u,by simpa using h1,d⟩
theorem AVs.set{x:A}{v:V}(h:AV K ρ H x v):∀{xs:ad}{vs:List V}(i:Nat),AVs K ρ H xs vs->AVs K ρ H (xs.set i x) (vs.set i v)
 | _,_,_,.nil=>.nil
 | _,_,0,.cons _ t=>.cons h t
 | _,_,i+1,.cons q t=>.cons q<|AVs.set h i t
def AVs.one{x:A}{v:V}(h:AV K ρ H x v):AVs K ρ H [x] [v]:=.cons h .nil
theorem AVs.eraseIdx:∀{xs:ad}{vs:List V}(i:Nat),AVs K ρ H xs vs->AVs K ρ H (xs.eraseIdx i) (vs.eraseIdx i)
 | _,_,_,.nil=>.nil
 | _,_,0,.cons _ t=>t
 | _,_,i+1,.cons q t=>.cons q<|AVs.eraseIdx i t
theorem rJ:∀(ns:ae),AVs K ρ H (ns.map .int) (ns.map .int)
 | []=>.nil
 | n::ns=>.cons (.int n)<|rJ ns
def Rel.lay{S:iM}{p:aj}(R:Rel K ρ H S)(hp:H p=none)(r:AVs K ρ H xs vs):Ext ρ (ρ++[p]) H (upd H p<|.lst vs)/\Rel K (ρ++[p]) (upd H p<|.lst vs) (S++[.lst xs])/\(ρ++[p])[S.length]?=some p:=by
 have ex:Ext ρ (ρ++[p]) H (upd H p<|.lst vs):=⟨⟨fN _ _,λa u _ h=>by rw[iS<|iZ h hp];exact h⟩,λa u h _=>by rw[iS<|iZ h hp];exact h,λa h=>by
  rcases bT.mp h with z|z
  ·exact .inl z
  ·have e:a=p:=by simpa using z
   rw[e];exact .inr hp⟩
 have np:∀(n:Nat) (a:aj),ρ[n]?=some a->a≠p:=by
  intro n a e z;subst z;have hn:n<S.length:=by rw[<- R.len];exact(aJ.mp e).1
  have:=R.at n a S[n] e (aF hn)
  cases f:S[n]with
  | lst xs=>rw[f]at this;obtain⟨vs,h,_⟩:=this;rw[hp]at h;cases h
  | dct _|pW _|dcp _=>rw[f]at this;obtain⟨vs,h,_⟩:=this;rw[hp]at h;cases h
  | ins _ _=>rw[f]at this;obtain⟨_,_,h⟩:=this;rw[hp]at h;cases h
 have last:(ρ++[p])[S.length]?=some p:=by rw[<- R.len];simp
 refine⟨ex,⟨by simp[R.len],?_,?_⟩,last⟩
 ·rw[dc];refine⟨R.nd,by simp,λa j b hb e=>?_⟩;have:b=p:=by simpa using hb
  obtain⟨n,hn,m⟩:=ff.mp j;exact np n a (by rw[aF hn,m])<|e.trans this
 ·intro n a o h1 d;by_cases hn:n<S.length
  ·rw[aT<|by rw[R.len];exact hn]at h1;rw[aT hn]at d;have:=R.at n a o h1 d
   cases o with
   | lst ys=>obtain⟨g,e,q⟩:=this;exact⟨g,by rw[iS<|np n a h1];exact e,q.ext ex⟩
   | dct _|pW _|dcp _=>obtain⟨g,e,q⟩:=this;exact⟨g,by rw[iS<|np n a h1];exact e,q.ext ex⟩
   | ins _ _=>obtain⟨t,k,e⟩:=this;exact⟨t,k,by rw[iS<|np n a h1];exact e⟩
  ·have e:n=S.length:=by
    have:=(aJ.mp d).1;simp at this
    lia
   subst e;rw[last]at h1
   cases h1
   simp at d;subst d;exact⟨vs,jy,r.ext ex⟩
def Rel.im{p:aj}(R:Rel K ρ H S)(hp:H p=none):Ext ρ ρ H (upd H p u)/\Rel K ρ (upd H p u) S:=by
 have ex:Ext ρ ρ H (upd H p u):=⟨⟨dR _,λa u _ h=>by rw[iS<|iZ h hp];exact h⟩,λa u h _=>by rw[iS<|iZ h hp];exact h,λ_ h=>.inl h⟩;refine⟨ex,R.len,R.nd,λn a o h1 g=>?_⟩;have:=R.at n a o h1 g
 cases o with
 | lst ys=>obtain⟨d,e,q⟩:=this;exact⟨d,by rw[iS<|iZ e hp];exact e,q.ext ex⟩
 | dct _|pW _|dcp _=>obtain⟨d,e,q⟩:=this;exact⟨d,by rw[iS<|iZ e hp];exact e,q.ext ex⟩
 | ins _ _=>obtain⟨f,j,e⟩:=this;exact⟨f,j,by rw[iS<|iZ e hp];exact e⟩
def Rel.put{S:iM}{n:Nat}{a:aj}(R:Rel K ρ H S)(ha:ρ[n]?=some a)(hS:S[n]?=some (.lst xs))(r:AVs K ρ H ys ws):Ext ρ ρ H (upd H a<|.lst ws)/\Rel K ρ (upd H a<|.lst ws) (S.set n<|.lst ys):=by
 obtain⟨vs,e,_⟩:=R.at n a _ ha hS;have ex:Ext ρ ρ H (upd H a<|.lst ws):=⟨⟨dR _,λb u i h=>by
  have:b≠a:=by
   intro z;subst z;rw[e]at h;cases h;exact i
  rw[iS this];exact h⟩,λb u h n=>by
  rw[iS λz=>n<|by rw[z];exact bg ha];exact h,λ_ h=>.inl h⟩
 refine⟨ex,by rw[aZ];exact R.len,R.nd,λm b o h1 g=>?_⟩;by_cases hm:m=n
 ·subst hm;rw[ha]at h1;cases h1;rw[bK (aJ.mp hS).1]at g
  cases g
  exact⟨ws,jy,r.ext ex⟩
 ·rw[bN<|cQ hm]at g;have nb:b≠a:=λz=>by
   subst z;obtain⟨B,e1⟩:=aJ.mp ha;obtain⟨t,e2⟩:=aJ.mp h1;exact hm<|(iw R.nd).mp<|e2.trans e1.symm
  have:=R.at m b o h1 g
  cases o with
  | lst ys=>obtain⟨d,f,q⟩:=this;exact⟨d,by rw[iS nb];exact f,q.ext ex⟩
  | dct _|pW _|dcp _=>obtain⟨d,f,q⟩:=this;exact⟨d,by rw[iS nb];exact f,q.ext ex⟩
  | ins _ _=>obtain⟨k,j,f⟩:=this;exact⟨k,j,by rw[iS nb];exact f⟩
def Rel.lst{n:Nat}{a:aj}(R:Rel K ρ H S)(ha:ρ[n]?=some a)(hS:S[n]?=some (.lst xs)):∃vs,H a=some (.lst vs)/\AVs K ρ H xs vs:=R.at n a _ ha hS
structure SR (K:aq)(ρ:ba)(H:Hp)(τ:ad)(σ:St):Prop where
 len:τ.length=σ.length
 «at»:∀(i:Nat) (a:A),τ[i]?=some a->a=.unb\/∃v,σ[i]?=some (some v)/\AV K ρ H a v
def SR.kQ(s:SR K ρ H τ σ)(e:Ext0 ρ ρ' H H'):SR K ρ' H' τ σ:=⟨s.len,λi a h=>by
 rcases s.at i a h with z|⟨v,h1,d⟩
 ·exact .inl z
 ·exact .inr ⟨v,h1,AV.kQ e d⟩⟩
def SR.ext(s:SR K ρ H τ σ)(e:Ext ρ ρ' H H'):SR K ρ' H' τ σ:=s.kQ e.toExt0
def Rel.out(R:Rel K ρ H S)(hD:H D=some (.lst vs))(hn:D∉ρ):Ext0 ρ ρ H (upd H D<|.lst ws)/\Rel K ρ (upd H D<|.lst ws) S:=by
 have ex:Ext0 ρ ρ H (upd H D<|.lst ws):=⟨dR _,λb u i h=>by
  have:b≠D:=by
   intro z;subst z;rw[hD]at h;cases h;exact i
  rw[iS this];exact h⟩
 refine⟨ex,R.len,R.nd,λn a o h1 j=>?_⟩;have na:a≠D:=λz=>hn (by rw[<- z];exact bg h1);have:=R.at n a o h1 j
 cases o with
 | lst ys=>obtain⟨d,e,q⟩:=this;exact⟨d,by rw[iS na];exact e,AVs.kQ ex q⟩
 | dct _|pW _|dcp _=>obtain⟨d,e,q⟩:=this;exact⟨d,by rw[iS na];exact e,q.kQ ex⟩
 | ins _ _=>obtain⟨g,f,e⟩:=this;exact⟨g,f,by rw[iS na];exact e⟩
def Rel.take{S:iM}{D:aj}(R:Rel K ρ H S)(hD:H D=some (.lst vs))(hn:D∉ρ)(r:AVs K ρ H xs vs):Rel K (ρ++[D]) H (S++[.lst xs])/\(ρ++[D])[S.length]?=some D:=by
 have ex:Ext0 ρ (ρ++[D]) H H:=⟨fN _ _,λ_ _ _ h=>h⟩;have last:(ρ++[D])[S.length]?=some D:=by rw[<- R.len];simp
 refine⟨⟨by simp[R.len],?_,λn a o h1 d=>?_⟩,last⟩
 ·rw[dc];refine⟨R.nd,by simp,λa k b hb e=>?_⟩;have:b=D:=by simpa using hb
  exact hn<|by rw[<- this,<- e];exact k
 ·by_cases hs:n<S.length
  ·rw[aT<|by rw[R.len];exact hs]at h1;rw[aT hs]at d;have:=R.at n a o h1 d
   cases o with
   | lst ys=>obtain⟨f,e,q⟩:=this;exact⟨f,e,AVs.kQ ex q⟩
   | dct _|pW _|dcp _=>obtain⟨f,e,q⟩:=this;exact⟨f,e,q.kQ ex⟩
   | ins _ _=>obtain⟨j,g,e⟩:=this;exact⟨j,g,e⟩
  ·have e:n=S.length:=by
    have:=(aJ.mp d).1;simp at this
    lia
   subst e;rw[last]at h1
   cases h1
   simp at d;subst d;exact⟨vs,hD,AVs.kQ ex r⟩
def SR.set{τ:ad}{σ:St}{a:A}{v:V}(s:SR K ρ H τ σ)(h:AV K ρ H a v):SR K ρ H (τ.set i a) (σ.set i<|some v):=by
 refine⟨by simp[s.len],λj b e=>?_⟩;by_cases d:j=i
 ·subst d;have f:j<τ.length:=by
   have:=(aJ.mp e).1;simpa using this
  rw[bK f]at e
  cases e
  exact .inr ⟨v,bK<|by rw[<- s.len];exact f,h⟩
 ·rw[bN<|cQ d]at e;rw[bN<|cQ d];exact s.at j b e
end
end Am
namespace Am
open PySem PySem.Spec PyProof.Rows L2
abbrev XE (X:Cx)(ρ:ba)(H:Hp):Str->iM->Prop:=λc d=>∀(C:aj) (ρ':ba) (H':Hp),Cr X.K c C->Ext ρ ρ' H H'->Rel X.K ρ' H' d->EX X (.ref C) none H'
def XE.ext{H H':Hp}(h:XE X ρ H c S)(e:Ext ρ ρ' H H'):XE X ρ' H' c S:=λC d H2 n e2=>h C d H2 n<|e.trans e2
abbrev tY (X:Cx)(ρ:ba)(H:Hp)(Q:VK):A->iM->Prop:=λa d=>∀ρ' H' v,Ext ρ ρ' H H'->Rel X.K ρ' H' d->AV X.K ρ' H' a v->Q v H'
abbrev SI (X:Cx)(ρ:ba)(H:Hp)(Q:Bool->Hp->Prop):Bool->iM->Prop:=λb d=>∀ρ' H',Ext ρ ρ' H H'->Rel X.K ρ' H' d->Q b H'
abbrev Vo (X:Cx)(ρ:ba)(H:Hp)(Q:List V->Hp->Prop):ad->iM->Prop:=λf d=>∀ρ' H' vs,Ext ρ ρ' H H'->Rel X.K ρ' H' d->AVs X.K ρ' H' f vs->Q vs H'
def tY.ext{H H':Hp}{Q:VK}{a:A}(h:tY X ρ H Q a S)(e:Ext ρ ρ' H H'):tY X ρ' H' Q a S:=λd H2 v e2=>h d H2 v<|e.trans e2
def SI.ext{H H':Hp}{Q:Bool->Hp->Prop}{a:Bool}(h:SI X ρ H Q a S)(e:Ext ρ ρ' H H'):SI X ρ' H' Q a S:=λd H2 e2=>h d H2<|e.trans e2
def iN{α:Type}{H H':Hp}{r:R α}{P P':α->iM->Prop}(h:r.post P<|XE X ρ H)(e:Ext ρ ρ' H H')(hp:∀a S,P a S->P' a S):r.post P' (XE X ρ' H'):=se h hp λ_ _ z=>z.ext e
abbrev tE (X:Cx)(c:Ex):TE:=λσ H Q=>∃ρ S τ,Rel X.K ρ H S/\SR X.K ρ H τ σ/\(c τ S).post (tY X ρ H Q) (XE X ρ H)
abbrev tT (X:Cx)(c:Te):TT:=λσ H Q=>∃ρ S τ,Rel X.K ρ H S/\SR X.K ρ H τ σ/\(c τ S).post (SI X ρ H Q) (XE X ρ H)
abbrev tL (X:Cx)(c:qJ):TA:=λσ H Q=>∃ρ S τ,Rel X.K ρ H S/\SR X.K ρ H τ σ/\(c τ S).post (Vo X ρ H Q) (XE X ρ H)
abbrev AE (X:Cx)(e:aC)(c:Ex):Prop:=PE X e<|tE X c
abbrev AT (X:Cx)(e:aC)(c:Te):Prop:=PT X e<|tT X c
abbrev AW (X:Cx)(e:aC)(c:Te):Prop:=PW X e<|tT X c
abbrev AL (X:Cx)(es:List aC)(c:qJ):Prop:=PA X es<|tL X c
def PE.imp{t t':TE}(h:PE X e t)(i:∀σ H Q,t' σ H Q->t σ H Q):PE X e t':=λpins s σ H Q I q=>h pins s σ H Q I<|i σ H Q q
def PT.imp{t t':TT}(h:PT X e t)(i:∀σ H Q,t' σ H Q->t σ H Q):PT X e t':=λpins s σ H Q I q=>h pins s σ H Q I<|i σ H Q q
def PW.imp{t t':TT}(h:PW X e t)(i:∀σ H Q,t' σ H Q->t σ H Q):PW X e t':=λw pins s σ H Q I q=>h w pins s σ H Q I<|i σ H Q q
def PA.imp{t t':TA}(h:PA X e t)(i:∀σ H Q,t' σ H Q->t σ H Q):PA X e t':=λp pins s σ H Q I q=>h p pins s σ H Q I<|i σ H Q q
def AW.at{c:Te}(h:AW X e c):AT X e c:=h _
abbrev A.j5:A->Bool
 | .unb=>true
 | _=>false
abbrev iE (i:Nat):Ex:=λτ S=>if (τ.getD i .unb).j5 then .no else .ok (τ.getD i .unb) S
abbrev eC (a:A):Ex:=λ_ S=>.ok a S
section
variable {X:Cx}{pos:Pos}{a b:aC}
def iC(i:Nat){x:Str}(hN:X.N[i]?=some x:=by rfl)(hv:Rg X.env.scope x:=by first|exact Or.inl rfl|exact Or.inr (Or.inl rfl)|exact Or.inr<|Or.inr rfl)(hd:(x == ("__debug__" : Str))=false:=by decide)
  (hcd:(x == ("__classdict__" : Str))=false:=by decide):AE X (.Name x pos) (iE i):=PE.imp (O6 hN hv hd hcd) λσ H Q h9=>by
 room;unfold iE at h
 cases hi:τ[i]? with
 | none=>
  rw[aG,hi]at h;exact h.elim
 | some x=>
  rw[aG,hi]at h
  rcases r.at i x hi with z|⟨v,e,q⟩
  ·subst z;exact h.elim
  ·refine⟨v,e,?_⟩
   cases x<;>first|(exact h ρ H v .refl R q)|exact h.elim
def iL{i:Int}{j pos}:AE X (.Constant (.int i) j pos) (eC<|.int i):=PE.imp Dn λσ H Q ⟨ρ,S,τ,R,r,h⟩=>h ρ H _ .refl R<|.int i
def mX{j pos}:AE X (.Constant (.bool i) j pos) (eC<|.bl i):=PE.imp Ry λσ H Q ⟨ρ,S,τ,R,r,h⟩=>h ρ H _ .refl R<|.bl i
def CI{j pos}:AE X (.Constant .none j pos) (eC .jC):=PE.imp OB λσ H Q ⟨ρ,S,τ,R,r,h⟩=>h ρ H _ .refl R .jC
def nN{x:Str}{j pos}:AE X (.Constant (.str x) j pos) (eC<|.str x):=PE.imp Ll λσ H Q ⟨ρ,S,τ,R,r,h⟩=>h ρ H _ .refl R<|.str x
def Bg{x:Str}{i:Int}(hm:X.mg x=some (.int i t))(hg:Gl X x:=by rfl)(hd:(x == ("__debug__" : Str))=false:=by decide):AE X (.Name x pos) (eC<|.int i):=
 PE.imp (DZ (v:=.int i) hg hm ⟨t,rfl⟩ hd) λσ H Q ⟨ρ,S,τ,R,r,h⟩=>h ρ H _ .refl R<|.int i
abbrev iK (f:A->A->iM->R A)(ca cb:Ex):Ex:=λτ S=>(ca τ S).bind λa S1=>(cb τ S1).bind λb S2=>f a b S2
abbrev r2 (X:Cx)(f:A->A->iM->R A):R2:=λx y H Q=>∃ρ S a b,Rel X.K ρ H S/\AV X.K ρ H a x/\AV X.K ρ H b y/\(f a b S).post (tY X ρ H Q) (XE X ρ H)
abbrev r1 (X:Cx)(f:A->iM->R A):V->Hp->VK->Prop:=λx H Q=>∃ρ S a,Rel X.K ρ H S/\AV X.K ρ H a x/\(f a S).post (tY X ρ H Q) (XE X ρ H)
abbrev rN (X:Cx)(f:ad->iM->R A):List V->Hp->VK->Prop:=λxs H Q=>∃ρ S d,Rel X.K ρ H S/\AVs X.K ρ H d xs/\(f d S).post (tY X ρ H Q) (XE X ρ H)
def nO.imp{f:aa->aa->Sem aa}{r r':R2}(h:nO X f r)(i:∀x y H Q,r' x y H Q->r x y H Q):nO X f r':=λpins s σ H x y v u Q I rx ry q=>h pins s σ H x y v u Q I rx ry<|i _ _ _ _ q
def jH.imp{f:aa}{r r':List V->Hp->VK->Prop}(h:jH X f r)(i:∀x H Q,r' x H Q->r x H Q):jH X f r':=λpins s σ H x v Q I rx q=>h pins s σ H x v Q I rx<|i _ _ _ q
def uh{f:A->A->iM->R A}{ca cb:Ex}{H:Hp}{Q:VK}(h:tE X (iK f ca cb) σ H Q):Q6 (r2 X f) (tE X ca) (tE X cb) σ H Q:=by
 obtain⟨ρ,S,τ,R,r,h⟩:=h;refine⟨ρ,S,τ,R,r,iN (iT h) .refl λa S1 h1 ρ1 H1 x e1 m g=>⟨ρ1,S1,τ,m,r.ext e1,iN (iT h1) e1 λb S2 q d H2 y e2 R2 k=>?_⟩⟩;exact⟨d,S2,a,b,R2,g.ext e2,k,iN q (e1.trans e2) λc S3 j=>j.ext<|e1.trans e2⟩
def i7{f:A->A->iM->R A}{ca cb:Ex}(ho:nO X (binaryOp op)<|r2 X f)(ha:AE X a ca)(hb:AE X b cb):AE X (.BinOp a op b pos) (iK f ca cb):=
 PE.imp (Rj ho ha hb) λσ H Q h=>uh h
theorem nM{op:CmpOp}{f:A->A->iM->R A}{ca cb:Ex}(ho:nO X (compareOp op)<|r2 X f)(ha:AE X a ca)(hb:AE X b cb)(hm:behindInMarks op b=false:=by first|exact Hs _|with_unfolding_all rfl):AE X (.Compare a [op] [b] pos) (iK f ca cb):=
 PE.imp (MU ho ha hb hm) λσ H Q h=>uh h
abbrev A.RV:A->iM->bj
 | .jC,_=>some false
 | .bl b,_=>some b
 | .int i,_=>some (i != 0)
 | .str x,_=>if x.length<=sizeLine then some ((x.length:Int) != 0)else none
 | .tup xs,_=>some (!xs.isEmpty)
 | .frz xs,_=>some (!xs.isEmpty)
 | .ref n,S=>(iG S n).map λxs=>!xs.isEmpty
 | _,_=>none
abbrev sJ (c:Ex):Te:=λτ S=>(c τ S).bind λa S1=>opt (a.RV S1) λb=>.ok b S1
abbrev qK (c:Ex):Te:=λτ S=>(c τ S).bind λa S1=>match a with
 | .bl b=>.ok b S1
 | _=>.no
def BV{K:aq}{H:Hp}{b:Bool}{v:V}(h:AV K ρ H (.bl b) v):v=.bl b:=by cases h;rfl
def jz{op:CmpOp}{f:A->A->iM->R A}{ca cb:Ex}(ho:nO X (compareOp op)<|r2 X f)(ha:AE X a ca)(hb:AE X b cb)(hm:behindInMarks op b=false:=by first|exact Hs _|with_unfolding_all rfl):AT X (.Compare a [op] [b] pos) (qK<|iK f ca cb):=
 PT.imp (MD ho ha hb hm) λσ H Q h9=>by
  room;refine uh ⟨ρ,S,τ,R,r,iN (iT h) .refl λc S1 h1 ρ1 H1 x e1 g d=>?_⟩
  cases c with
  | bl k=>cases BV d;exact⟨k,rfl,h1 ρ1 H1 e1 g⟩
  | _=>exact h1.elim
def QE{K:aq}{H:Hp}{x:A}{v:V}{b:Bool}(R:Rel K ρ H S)(h:AV K ρ H x v)(e:x.RV S=some b):Pd K v H b:=by
 have d:∀{xs:ad} {vs:List V},AVs K ρ H xs vs->(!xs.isEmpty)=!vs.isEmpty:=λr=>by cases r<;>rfl
 cases h with
 | jC=>exact(aR e).symm
 | bl b=>exact(aR e).symm
 | int i=>exact(aR e).symm
 | str x=>
  by_cases hx:x.length<=sizeLine
  ·exact⟨hx,by have:=(bf hx).symm.trans e;exact(aR this).symm⟩
  ·have:=(bu hx).symm.trans e;cases this
 | tup h r=>exact .inr (.inl ⟨_,m8.of h,by rw[<- d r];exact(aR e).symm⟩)
 | frz h r=>exact .inl ⟨_,h.LR,by rw[<- d r];exact(aR e).symm⟩
 | rng h=>cases e
 | ty n=>cases e
 | exn n h x=>cases e
 | ktu h r=>cases e
 | @ref a n h=>
  have e:(iG S n).map (λxs=>!xs.isEmpty)=some b:=e;obtain⟨xs,hn,e⟩:=aV.mp e;obtain⟨vs,h1,f⟩:=R.lst h<|iW hn;exact .inl ⟨vs,kP.of h1,by rw[<- d f];exact e.symm⟩
def l7{ca:Ex}(ha:AE X a ca)(he:∀whole,isTrue a X.env whole=(do let v <- whole;standAt a.pos;holding [v] (truthy v)):=by intro _;rfl):AT X a (sJ ca):=
 PT.imp (LG ha he) λσ H Q ⟨ρ,S,τ,R,r,h⟩=>⟨ρ,S,τ,R,r,iN (iT h) .refl λc S1 h1 ρ1 H1 x e1 d f=>by
  obtain⟨b,hb,h1⟩:=iV h1;exact⟨b,QE d f hb,h1 ρ1 H1 e1 d⟩⟩
abbrev sE (c:Te):Te:=λτ S=>(c τ S).bind λb S1=>.ok (!b) S1
abbrev KC (c d:Te):Te:=λτ S=>(c τ S).bind λb S1=>match b with|true=>d τ S1|false=>.ok false S1
abbrev Hh (c d:Te):Te:=λτ S=>(c τ S).bind λb S1=>match b with|true=>.ok true S1|false=>d τ S1
def mz{c:Te}(h:AT X a c):AT X (.UnaryOp .Not a pos) (sE c):=PT.imp (OZ h) λσ H Q ⟨ρ,S,τ,R,r,h⟩=>⟨ρ,S,τ,R,r,iN (iT h) .refl λb S1 h1=>h1⟩
def and_imp{c d:Te}{H:Hp}{Q:Bool->Hp->Prop}(h:tT X (KC c d) σ H Q):RA (tT X c) (tT X d) σ H Q:=by
 obtain⟨ρ,S,τ,R,r,h⟩:=h;refine⟨ρ,S,τ,R,r,iN (iT h) .refl λb S1 h1 ρ1 H1 e1 f=>?_⟩
 cases b with
 | true=>
  rw[bf rfl];exact⟨ρ1,S1,τ,f,r.ext e1,iN h1 e1 λ_ _ z=>z.ext e1⟩
 | false=>
  rw[bu bz];exact h1 ρ1 H1 e1 f
def or_imp{c d:Te}{H:Hp}{Q:Bool->Hp->Prop}(h:tT X (Hh c d) σ H Q):Vk (tT X c) (tT X d) σ H Q:=by
 obtain⟨ρ,S,τ,R,r,h⟩:=h;refine⟨ρ,S,τ,R,r,iN (iT h) .refl λb S1 h1 ρ1 H1 e1 f=>?_⟩
 cases b with
 | false=>
  rw[bu bz];exact⟨ρ1,S1,τ,f,r.ext e1,iN h1 e1 λ_ _ z=>z.ext e1⟩
 | true=>
  rw[bf rfl];exact h1 ρ1 H1 e1 f
variable {rest:List aC}
def EB{c:Te}(h:AT X a c):AW X (.BoolOp .And [a] pos) c:=MV h
def tu{c:Te}(h:AT X a c):AW X (.BoolOp .Or [a] pos) c:=Qa h
def JO{c d:Te}(h:AT X a c)(h2:AW X (.BoolOp .And (b::rest) pos) d):AW X (.BoolOp .And (a::b::rest) pos) (KC c d):=PW.imp (OL h h2) λ_ _ _ q=>and_imp q
def v8{c d:Te}(h:AT X a c)(h2:AW X (.BoolOp .Or (b::rest) pos) d):AW X (.BoolOp .Or (a::b::rest) pos) (Hh c d):=PW.imp (Q7 h h2) λ_ _ _ q=>or_imp q
abbrev rV (c d:Ex):Ex:=λτ S=>(c τ S).bind λa S1=>match a with | .bl true=>d τ S1 | .bl false=>.ok (.bl false) S1|_=>.no
abbrev Ve (c d:Ex):Ex:=λτ S=>(c τ S).bind λa S1=>match a with | .bl true=>.ok (.bl true) S1 | .bl false=>d τ S1|_=>.no
abbrev Nt (c:Ex):Ex:=λτ S=>(c τ S).bind λa S1=>match a with | .bl b=>.ok (.bl !b) S1|_=>.no
def nj{op}{c:Ex}(h:AE X a c):AE X (.BoolOp op [a] pos) c:=Pa h
def mR{c d:Ex}(h:AE X a c)(h2:AE X (.BoolOp .And (b::rest) pos) d):AE X (.BoolOp .And (a::b::rest) pos) (rV c d):=PE.imp (QA h h2) λσ H Q h9=>by
 room;refine⟨ρ,S,τ,R,r,iN (iT h) .refl λb S1 h1 ρ1 H1 x e1 f g=>?_⟩
 cases b with
 | bl k=>
  cases BV g
  refine⟨k,rfl,?_⟩
  cases k with
  | true=>
   rw[bf rfl];exact⟨ρ1,S1,τ,f,r.ext e1,iN h1 e1 λ_ _ z=>z.ext e1⟩
  | false=>
   rw[bu bz];exact h1 ρ1 H1 _ e1 f<|.bl false
 | _=>exact h1.elim
def HK{c:Ex}(h:AE X a c):AE X (.UnaryOp .Not a pos) (Nt c):=PE.imp (OW h) λσ H Q h9=>by
 room;refine⟨ρ,S,τ,R,r,iN (iT h) .refl λb S1 h1 ρ1 H1 x e1 f d=>?_⟩
 cases b with
 | bl k=>
  cases BV d
  exact⟨k,rfl,h1 ρ1 H1 _ e1 f<|.bl _⟩
 | _=>exact h1.elim
abbrev VD (t:Te)(c d:Ex):Ex:=λτ S=>(t τ S).bind λb S1=>match b with|true=>c τ S1|false=>d τ S1
abbrev iJ:qJ:=λ_ S=>.ok [] S
abbrev iD (c:Ex)(d:qJ):qJ:=λτ S=>(c τ S).bind λa S1=>(d τ S1).bind λf S2=>.ok (a::f) S2
def iH:AL X [] iJ:=PA.imp rE λσ H Q ⟨ρ,S,τ,R,r,h⟩=>h ρ H _ .refl R .nil
def iF{c:Ex}{d:qJ}(ha:AE X e c)(hr:AL X es d)(hs:starEach (e::es) X.env=(false,eval e X.env)::starEach es X.env:=by rfl):AL X (e::es) (iD c d):=
 PA.imp (lB ha hr hs) λσ H Q h9=>by
  room;refine⟨ρ,S,τ,R,r,iN (iT h) .refl λa S1 h1 ρ1 H1 x e1 k g=>⟨ρ1,S1,τ,k,r.ext e1,iN (iT h1) e1 λq S2 m f H2 xs e2 R2 j=>?_⟩⟩;exact m f H2 _ (e1.trans e2) R2<|.cons (g.ext e2) j
abbrev tX (d:qJ):Ex:=λτ S=>(d τ S).bind λf S1=>gd (f.length<=sizeLine)<|.ok (.tup f) S1
abbrev newL (as:ad)(S:iM):R A:=gd (as.length<=sizeLine)<|.ok (.ref S.length)<|S++[.lst as]
abbrev jQ (d:qJ):Ex:=λτ S=>(d τ S).bind λf S1=>newL f S1
def qF{H H0:Hp}{Q:VK}(R:Rel X.K ρ H S)(r:AVs X.K ρ H as vs)(e:Ext ρ0 ρ H0 H)(h:tY X ρ0 H0 Q (.tup as) S):∀p,H p=none->Q (.ref p) (upd H p<|.tup vs):=λp hp=>by
 obtain⟨ex,d⟩:=R.im (u:=.tup vs) hp;exact h ρ _ _ (e.trans ex) d<|.tup jy<|r.ext ex
def l5{H H0:Hp}{S:iM}{Q:VK}(R:Rel X.K ρ H S)(r:AVs X.K ρ H as vs)(e:Ext ρ0 ρ H0 H)(h:tY X ρ0 H0 Q (.ref S.length)<|S++[.lst as]):∀p,H p=none->Q (.ref p) (upd H p<|.lst vs):=λp hp=>by
 obtain⟨ex,d,g⟩:=R.lay hp r;exact h _ _ _ (e.trans ex) d<|.ref g
def M9{H H0:Hp}{vs:List V}{Q:VK}(R:Rel X.K ρ H S)(r:AVs X.K ρ H as vs)(e:Ext ρ0 ρ H0 H)(h:(newL as S).post (tY X ρ0 H0 Q)<|XE X ρ0 H0):vs.length<=sizeLine/\∀p,H p=none->Q (.ref p) (upd H p<|.lst vs):=by
 obtain⟨d,h⟩:=jd h;exact⟨by rw[<- r.length];exact d,l5 R r e h⟩
def m_{d:qJ}{x1}(h:AL X es d):AE X (.Tuple es x1 pos) (tX d):=PE.imp (Pk h) λσ H Q h9=>by
 room;refine⟨ρ,S,τ,R,r,iN (iT h) .refl λk S1 h1 ρ1 H1 xs e1 g f=>?_⟩;obtain⟨j,h1⟩:=jd h1;exact⟨by rw[<- f.length];exact j,qF g f e1 h1⟩
def jA{d:qJ}(h:AL X es d):AE X (.List es pos) (jQ d):=PE.imp (PR h) λσ H Q ⟨ρ,S,τ,R,r,h⟩=>
 ⟨ρ,S,τ,R,r,iN (iT h) .refl λj S1 h1 ρ1 H1 xs e1 g f=>M9 g f e1 h1⟩
end
section
variable {X:Cx}{pos:Pos}{a b:aC}
abbrev aSub (a b:A)(S:iM):R A:=match a,b with
 | .int i,.int j=>.ok (.int<|i-j) S
 | _,_=>.no
def zy:nO X (binaryOp .Sub) (r2 X aSub):=nO.imp Ql λx y H Q h9=>by
 k_ne
 cases va<;>first|exact h.elim|(cases vb<;>first|exact h.elim|exact⟨_,_,rfl,rfl,h _ _ _ .refl R<|.int _⟩)
abbrev DT (i j:Int):Bool:=(decide (-(2 ^ 64)<i) && decide (i<2 ^ 64)) || (decide (-(2 ^ 64)<j) && decide (j<2 ^ 64))
def mulOk_of{i j:Int}(h:DT i j=true):M6 i j:=by
 unfold DT at h;dsimp[iA,bE,d_]at h;exact h
abbrev yq (a b:A)(S:iM):R A:=match a,b with
 | .int i,.int j=>gd (DT i j) (.ok (.int<|i * j) S)
 | .ref n,.int k=>opt (iG S n) λxs=>gd (-(2 ^ 63)<=k/\k<2 ^ 63/\xs.length * k.toNat<=sizeLine) (.ok (.ref S.length)<|S++[.lst (List.replicate k.toNat xs).flatten])
 | _,_=>.no
theorem AVs.rep{K:aq}{H:Hp}(r:AVs K ρ H xs vs):∀k:Nat,AVs K ρ H (List.replicate k xs).flatten (List.replicate k vs).flatten
 | 0=>.nil
 | k+1=>by rw[dh,dh,bI,bI];exact r.append<|AVs.rep r k
def Ec:nO X (binaryOp .Mult) (r2 X yq):=λpins s σ H x y v u Q I rx ry h9=>by
 k_ne
 cases va with
 | int i=>
  cases vb with
  | int j=>
   obtain⟨hm,h⟩:=jd h;exact Qe pins s σ H _ _ v u Q I rx ry ⟨i,j,rfl,rfl,mulOk_of hm,h _ _ _ .refl R<|.int _⟩
  | _=>exact h.elim
 | @ref p n hp=>
  cases vb with
  | int k=>
   gn_on;obtain⟨hc,h⟩:=jd h;obtain⟨vs,h1,d⟩:=R.lst hp<|iW hn;exact O_ pins s σ H _ _ v u Q I rx ry ⟨p,k,vs,rfl,rfl,h1,hc.1,hc.2.1,by rw[<- d.length];exact hc.2.2,l5 R (d.rep _) .refl h⟩
  | _=>exact h.elim
 | _=>exact h.elim
abbrev DY (a b:A)(S:iM):R A:=match a,b with
 | .int i,.int j=>gd (0<j/\j<18446744073709551616) (.ok (.int<|i / j) S)
 | _,_=>.no
def KS:nO X (binaryOp .FloorDiv) (r2 X DY):=nO.imp K7 λx y H Q h9=>by
 k_ne
 cases va<;>first|exact h.elim|(cases vb<;>first|exact h.elim|exact⟨_,_,rfl,rfl,(jd h).1,(jd h).2 _ _ _ .refl R<|.int _⟩)
abbrev wu (a b:A)(S:iM):R A:=match a,b with
 | .int i,.int j=>gd (0<j) (.ok (.int<|i % j) S)
 | _,_=>.no
def yJ:nO X (binaryOp .Mod) (r2 X wu):=nO.imp OP λx y H Q h9=>by
 k_ne
 cases va<;>first|exact h.elim|(cases vb<;>first|exact h.elim|exact⟨_,_,rfl,rfl,(jd h).1,(jd h).2 _ _ _ .refl R<|.int _⟩)
abbrev sX (a b:A)(S:iM):R A:=match a,b with
 | .int i,.int j=>gd (0<=j/\j<=1000000/\i.natAbs<2 ^ 64) (.ok (.int<|i ^ j.toNat) S)
 | _,_=>.no
def yM:nO X (binaryOp .Pow) (r2 X sX):=nO.imp Ox λx y H Q h9=>by
 k_ne
 cases va<;>first|exact h.elim|(cases vb<;>first|exact h.elim|exact⟨_,_,rfl,rfl,(jd h).1,(jd h).2 _ _ _ .refl R<|.int _⟩)
abbrev jJ (a b:A)(S:iM):R A:=match a,b with
 | .int i,.int j=>.ok (.int<|i+j) S
 | .tup xs,.tup ys=>gd (xs.length+ys.length<=sizeLine) (.ok (.tup<|xs++ys) S)
 | .str x,.str y=>gd (x.length+y.length<=sizeLine) (.ok (.str<|x++y) S)
 | .ref n,.ref m=>opt (iG S n) λxs=>opt (iG S m) λys=>gd (xs.length+ys.length<=sizeLine) (.ok (.ref S.length)<|S++[.lst<|xs++ys])
 | _,_=>.no
def AVs.nil_inv{K:aq}{H:Hp}(r:AVs K ρ H xs vs):xs=[] ↔ vs=[]:=by cases r<;>simp
def ko:nO X (binaryOp .Add) (r2 X jJ):=λpins s σ H x y v u Q I rx ry h9=>by
 k_ne
 cases va with
 | int i=>
  cases vb with
  | int j=>exact OH pins s σ H _ _ v u Q I rx ry ⟨i,j,rfl,rfl,h _ _ _ .refl R<|.int _⟩
  | _=>exact h.elim
 | str x=>
  cases vb with
  | str y=>
   obtain⟨hc,h⟩:=jd h;exact CB pins s σ H _ _ v u Q I rx ry ⟨x,y,rfl,rfl,hc,h _ _ _ .refl R<|.str _⟩
  | _=>exact h.elim
 | @tup p xs vs h1 r1=>
  cases vb with
  | @tup q ys f d r2=>
   obtain⟨hc,h⟩:=jd h;by_cases hv:vs=[]
   ·have hx:=r1.nil_inv.mpr hv;subst hv hx;exact IK pins s σ H _ _ v u Q I rx ry ⟨p,q,f,rfl,rfl,m8.of h1,m8.of d,h _ _ _ .refl R<|.tup d r2⟩
   ·refine L8 pins s σ H _ _ v u Q I rx ry ⟨p,q,vs,f,rfl,rfl,m8.of h1,m8.of d,hv,by rw[<- r1.length,<- r2.length];exact hc,λe=>?_,λ_=>qF R (r1.append r2) .refl h⟩;have hy:=r2.nil_inv.mpr e;subst hy;rw[bM]at h;exact h _ _ _ .refl R<|.tup h1 r1
  | _=>exact h.elim
 | @ref p n hp=>
  cases vb with
  | @ref q m t=>
   gn_on;obtain⟨ys,hm,h⟩:=iV h;obtain⟨hc,h⟩:=jd h;obtain⟨vs,h1,d⟩:=R.lst hp<|iW hn;obtain⟨f,k,g⟩:=R.lst t<|iW hm;exact OF pins s σ H _ _ v u Q I rx ry ⟨p,q,vs,f,rfl,rfl,h1,k,by rw[<- d.length,<- g.length];exact hc,l5 R (d.append g) .refl h⟩
  | _=>exact h.elim
 | _=>exact h.elim
abbrev A.ints:ad->Option (ae)
 | []=>some []
 | .int i::xs=>(A.ints xs).map (i::·)
 | _=>none
def OG{x:A}{bs:ae}(e:A.ints (x::xs)=some bs):∃b cs,x=.int b/\A.ints xs=some cs/\bs=b::cs:=by
 unfold A.ints at e;split at e
 ·rename_i z;cases z
 ·rename_i i ys z
  cases z
  obtain⟨cs,h1,d⟩:=aV.mp e;exact⟨i,cs,rfl,h1,d.symm⟩
 ·cases e
def E1{K:aq}{H:Hp}:∀{xs:ad}{vs:List V}{bs:ae},AVs K ρ H xs vs->A.ints xs=some bs->vs=bs.map V.int:=by
 intro xs
 induction xs with
 | nil=>
  intro vs bs h e
  cases h
  cases e
  rfl
 | cons x xs d=>
  intro vs bs h e;obtain⟨b,cs,rfl,e1,rfl⟩:=OG e
  cases h with
  | cons h t=>
   cases h
   rw[d t e1];rfl
abbrev Nc (a b:A)(S:iM):R A:=match a,b with
 | .int i,.int j=>.ok (.bl<|decide<|i<j) S
 | _,_=>.no
def Mm(hu:X.A.units+64<cLine):nO X (compareOp .Lt) (r2 X Nc):=λpins s σ H x y v u Q I rx ry h9=>by
 k_ne
 cases va with
 | int i=>
  cases vb with
  | int j=>exact RK pins s σ H _ _ v u Q I rx ry ⟨i,j,rfl,rfl,h _ _ _ .refl R<|.bl _⟩
  | _=>exact h.elim
 | _=>exact h.elim
abbrev Cn (a b:A)(S:iM):R A:=match a,b with
 | .int i,.int j=>.ok (.bl<|decide<|i<=j) S
 | _,_=>.no
def GQ:nO X (compareOp .LtE) (r2 X Cn):=nO.imp Sl λx y H Q h9=>by
 k_ne
 cases va<;>first|exact h.elim|(cases vb<;>first|exact h.elim|exact⟨_,_,rfl,rfl,h _ _ _ .refl R<|.bl _⟩)
abbrev LQ (a b:A)(S:iM):R A:=match a,b with
 | .int i,.int j=>.ok (.bl<|decide<|j<i) S
 | _,_=>.no
def Gy(hu:X.A.units+64<cLine):nO X (compareOp .Gt) (r2 X LQ):=λpins s σ H x y v u Q I rx ry h9=>by
 k_ne
 cases va with
 | int i=>
  cases vb with
  | int j=>exact Rc pins s σ H _ _ v u Q I rx ry ⟨i,j,rfl,rfl,h _ _ _ .refl R<|.bl _⟩
  | _=>exact h.elim
 | _=>exact h.elim
abbrev Rl (a b:A)(S:iM):R A:=match a,b with
 | .int i,.int j=>.ok (.bl<|decide<|j<=i) S
 | _,_=>.no
def Sz:nO X (compareOp .GtE) (r2 X Rl):=nO.imp Sw λx y H Q h9=>by
 k_ne
 cases va<;>first|exact h.elim|(cases vb<;>first|exact h.elim|exact⟨_,_,rfl,rfl,h _ _ _ .refl R<|.bl _⟩)
abbrev Ol (neg:Bool)(a b:A)(S:iM):R A:=match a,b with
 | .bl i,.bl j=>.ok (.bl<|if neg then i != j else i == j) S
 | .jC,.jC=>.ok (.bl<|!neg) S
 | .unb,.jC=>.no
 | .exn _,.jC=>.no
 | _,.jC=>.ok (.bl neg) S
 | _,_=>.no
abbrev Bx (f:A->iM->R A)(c:Ex):Ex:=λτ S=>(c τ S).bind λa S1=>f a S1
abbrev vq (a:A)(S:iM):R A:=match a with
 | .int i=>.ok (.int<|-i) S
 | _=>.no
def RU:SS X (unaryOp .USub) (r1 X vq):=λpins s σ H x v Q I rx h9=>by
 obtain⟨ρ,S,a,R,va,h⟩:=h9
 cases va with
 | int i=>exact Dm pins s σ H _ v Q I rx ⟨i,rfl,h _ _ _ .refl R<|.int _⟩
 | _=>exact h.elim
def QB{f:A->iM->R A}{c:Ex}{H:Hp}{Q:VK}(h:tE X (Bx f c) σ H Q):U9 (r1 X f) (tE X c) σ H Q:=by
 obtain⟨ρ,S,τ,R,r,h⟩:=h;exact⟨ρ,S,τ,R,r,iN (iT h) .refl λa S1 h1 ρ1 H1 x e1 g d=>⟨ρ1,S1,a,g,d,iN h1 e1 λc S3 j=>j.ext e1⟩⟩
def vM{c:Ex}(h:AE X a c):AE X (.UnaryOp .USub a pos) (Bx vq c):=PE.imp (HE RU h) λ_ _ _ q=>QB q
abbrev j8 (a b:A)(S:iM):R A:=match a,b with
 | .tup xs,.int i=>opt (ng xs i) λx=>.ok x S
 | .frz xs,.int i=>opt (ng xs i) λx=>.ok x S
 | .ref n,.int i=>opt (iG S n) λxs=>opt (ng xs i) λx=>.ok x S
 | .str z,.int i=>gd (z.length<=sizeLine) (opt (ng z.cps.toList i) λc=>.ok (.str ⟨#[c]⟩) S)
 | _,_=>.no
def AVs.ng{K:aq}{H:Hp}{i:Int}{x:A}(r:AVs K ρ H xs vs)(h:L2.ng xs i=some x):∃v,L2.ng vs i=some v/\AV K ρ H x v:=by
 unfold L2.ng at h ⊢;rw[<- r.length]
 cases d:wV xs.length i with
 | none=>rw[d]at h;cases h
 | some j=>
  rw[d]at h;exact r.get h
def RZ:PK X (r2 X j8):=λf d pins s σ H x y v u Q I rx ry ⟨ρ,S,a,b,R,va,vb,h⟩ hs=>by
 cases va with
 | @tup p xs vs h1 r1=>
  cases vb with
  | int i=>
   obtain⟨x,hx,h⟩:=iV h;obtain⟨z,e,q⟩:=r1.ng hx;exact Pe f d pins s σ H _ _ v u Q I rx ry ⟨p,vs,i,z,rfl,rfl,m8.of h1,e,h _ _ _ .refl R q⟩ hs
  | _=>exact h.elim
 | @frz p xs vs h1 r1=>
  cases vb with
  | int i=>
   obtain⟨x,hx,h⟩:=iV h;obtain⟨z,e,q⟩:=r1.ng hx;exact Gd f d pins s σ H _ _ v u Q I rx ry ⟨p,vs,i,z,rfl,rfl,h1.LR,e,h _ _ _ .refl R q⟩ hs
  | _=>exact h.elim
 | @ref p n hp=>
  cases vb with
  | int i=>
   gn_on;obtain⟨x,hx,h⟩:=iV h;obtain⟨vs,h1,r1⟩:=R.lst hp<|iW hn;obtain⟨z,e,q⟩:=r1.ng hx;exact Gd f d pins s σ H _ _ v u Q I rx ry ⟨p,vs,i,z,rfl,rfl,kP.of h1,e,h _ _ _ .refl R q⟩ hs
  | _=>exact h.elim
 | str z=>
  cases vb with
  | int i=>
   obtain⟨g,h⟩:=jd h;obtain⟨c,hc,h⟩:=iV h;exact Ow f d pins s σ H _ _ v u Q I rx ry ⟨z,i,c,rfl,rfl,g,hc,h _ _ _ .refl R<|.str _⟩ hs
  | _=>exact h.elim
 | _=>exact h.elim
def i_{ca cb:Ex}(ha:AE X a ca)(hb:AE X b cb)(hs:Ax b:=by exact λ_ _=>rfl):AE X (.Subscript a b pos) (iK j8 ca cb):=PE.imp (Of RZ ha hb hs) λσ H Q h=>uh h
end
abbrev sC (f:A->A->bj):ad->ad->bj
 | [],[]=>some true
 | x::xs,y::ys=>(f x y).bind λp=>(sC f xs ys).map λq=>p && q
 | _,_=>some false
inductive Sh
 | jC
 | bl (b:Bool)
 | int (i:Int)
 | str (x:Str)
 | tup (xs:ad)
 | lst
abbrev OY (S:iM):A->Option Sh
 | .jC=>some .jC
 | .bl b=>some (.bl b)
 | .int i=>some (.int i)
 | .str x=>some (.str x)
 | .tup xs=>some (.tup xs)
 | .ref i=>(iG S i).map λ_=>.lst
 | _=>none
abbrev Nk (f:A->A->bj):Sh->Sh->bj
 | .jC,.jC=>some true
 | .bl x,.bl y=>some (x == y)
 | .bl x,.int y=>some ((if x then 1 else 0) == y)
 | .int x,.bl y=>some (x == (if y then 1 else 0))
 | .int x,.int y=>some (x == y)
 | .str x,.str y=>some (x == y)
 | .tup xs,.tup ys=>sC f xs ys
 | .lst,.lst=>none
 | _,_=>some false
abbrev sM (S:iM):Nat->A->A->bj
 | 0,_,_=>none
 | n+1,a,b=>match a,b with
  | .ref i,.ref j=>(iG S i).bind λxs=>(iG S j).bind λys=>sC (sM S n) xs ys
  | _,_=>(OY S a).bind λx=>(OY S b).bind λy=>Nk (sM S n) x y
section
variable {X:Cx}{pins:bt}{σ:L2.St}{H:Hp}{s:aA}{ρ:ba}{S:iM}
inductive KdV (s:aA):Sh->aa->Prop
 | jC:KdV s .jC .none
 | bl (b:Bool):KdV s (.bl b) (.bool b)
 | int (i:Int) (t:Tok):KdV s (.int i) (.int i t)
 | str (x:Str) (t:Tok):KdV s (.str x) (.str x t)
 | tup {p:aj} {us:ar} (xs:ad) (h:s.heap.IsTuple p us.toArray):KdV s (.tup xs) (.ref p)
 | lst {p:aj} {us:ar} (h:s.heap.IsList p us.toArray):KdV s .lst<|.ref p
def FA{p:aj}(h:s.heap.IsTuple p us)(h':s.heap.IsList p ws):False:=by
 obtain⟨o,e,c,_⟩:=h;obtain⟨o',d,f,_⟩:=h';rw[e]at d
 cases d
 exact absurd (c.symm.trans f) ⋯
def D6(I:Inv X pins σ H s)(R:Rel X.K ρ H S){a:A}{x:V}(ha:AV X.K ρ H a x)(r:RelV x u)(e:OY S a=some h):KdV s h u:=by
 cases ha with
 | jC=>cases e;cases(show u=Value.none from r);exact .jC
 | bl b=>cases e;cases(show u=Value.bool b from r);exact .bl b
 | int i=>cases e;obtain⟨t,rfl⟩:∃t,u=Value.int i t:=r;exact .int i t
 | str i=>cases e;obtain⟨t,rfl⟩:∃t,u=Value.str i t:=r;exact .str i t
 | tup h1 r1=>cases e;cases(show u=Value.ref _ from r);obtain⟨us,_,p,_⟩:=I.tuple<|m8.of h1;exact .tup _ p
 | ref h1=>
  obtain⟨xs,e1,rfl⟩:=aV.mp e
  cases(show u=Value.ref _ from r)
  obtain⟨vs,d,r1⟩:=R.lst h1<|iW e1;obtain⟨us,_,p,_⟩:=I.list<|kP.of d;exact .lst p.isList
 | _=>cases e
abbrev Al (B:au)(s:aA)(u v:aa)(k:Bool):Prop:=SeqAt.RcAt B s u v k/\SeqAt.EqAt B s u v k/\SeqAt.RcNeAt B s u v (!k)
def Q8{B:au}(hu:B.units<cLine){f:A->A->bj}{v:aa}{k:Bool}(d:KdV s h u)(d':KdV s h' v)(nt:∀xs ys,h=.tup xs->h'≠.tup ys)(e:Nk f h h'=some k):Al B s u v k:=by
 cases d with
 | jC=>cases d' with
  | jC=>cases e;exact⟨.none_none,.same _,.none_none⟩
  | bl b=>cases e;exact⟨.none_bool _,.none_bool _,.none_bool _⟩
  | int i t=>cases e;exact⟨.none_int _ _,.none_int _ _,.none_int _ _⟩
  | str x t=>cases e;exact⟨.none_str _ _,.none_str _ _,.none_str _ _⟩
  | tup xs p=>cases e;exact⟨.none_tuple p hu,.none_tuple p hu,.none_tuple p hu⟩
  | lst p=>cases e;exact⟨.none_list p hu,.none_list p hu,.none_list p hu⟩
 | bl c=>cases d' with
  | jC=>cases e;exact⟨.bool_none _,.bool_none _,.bool_none _⟩
  | bl b=>cases e;exact⟨.bool_bool _ _,.bool_bool _ _,.bool_bool _ _⟩
  | int i t=>cases e;exact⟨.bool_int _ _ _,.bool_int _ _ _,.bool_int _ _ _⟩
  | str x t=>cases e;exact⟨.bool_str _ _ _,.bool_str _ _ _,.bool_str _ _ _⟩
  | tup xs p=>cases e;exact⟨.bool_tuple _ p hu,.bool_tuple _ p hu,.bool_tuple _ p hu⟩
  | lst p=>cases e;exact⟨.bool_list _ p hu,.bool_list _ p hu,.bool_list _ p hu⟩
 | int c j=>cases d' with
  | jC=>cases e;exact⟨.int_none _ _,.int_none _ _,.int_none _ _⟩
  | bl b=>cases e;exact⟨.int_bool _ _ _,.int_bool _ _ _,.int_bool _ _ _⟩
  | int i t=>cases e;exact⟨.int_int _ _ _ _,.int_int _ _ _ _,.int_int _ _ _ _⟩
  | str x t=>cases e;exact⟨.int_str _ _ _ _,.int_str _ _ _ _,.int_str _ _ _ _⟩
  | tup xs p=>cases e;exact⟨.int_tuple _ _ p hu,.int_tuple _ _ p hu,.int_tuple _ _ p hu⟩
  | lst p=>cases e;exact⟨.int_list _ _ p hu,.int_list _ _ p hu,.int_list _ _ p hu⟩
 | str c j=>cases d' with
  | jC=>cases e;exact⟨.str_none _ _,.str_none _ _,.str_none _ _⟩
  | bl b=>cases e;exact⟨.str_bool _ _ _,.str_bool _ _ _,.str_bool _ _ _⟩
  | int i t=>cases e;exact⟨.str_int _ _ _ _,.str_int _ _ _ _,.str_int _ _ _ _⟩
  | str x t=>cases e;exact⟨.str_str _ _ _ _,.str_str _ _ _ _,.str_str _ _ _ _⟩
  | tup xs p=>cases e;exact⟨.str_tuple _ _ p hu,.str_tuple _ _ p hu,.str_tuple _ _ p hu⟩
  | lst p=>cases e;exact⟨.str_list _ _ p hu,.str_list _ _ p hu,.str_list _ _ p hu⟩
 | tup zs g=>cases d' with
  | jC=>cases e;exact⟨.tuple_none g hu,.tuple_none g hu,.tuple_none g hu⟩
  | bl b=>cases e;exact⟨.tuple_bool _ g hu,.tuple_bool _ g hu,.tuple_bool _ g hu⟩
  | int i t=>cases e;exact⟨.tuple_int _ _ g hu,.tuple_int _ _ g hu,.tuple_int _ _ g hu⟩
  | str x t=>cases e;exact⟨.tuple_str _ _ g hu,.tuple_str _ _ g hu,.tuple_str _ _ g hu⟩
  | tup xs p=>exact absurd rfl (nt _ _ rfl)
  | lst p=>cases e;exact⟨.tuple_list g p hu,.of_refs (λz=>by subst z;exact FA g p)<|.tuple_list g p hu,.tuple_list g p hu⟩
 | lst g=>cases d' with
  | jC=>cases e;exact⟨.list_none g hu,.list_none g hu,.list_none g hu⟩
  | bl b=>cases e;exact⟨.list_bool _ g hu,.list_bool _ g hu,.list_bool _ g hu⟩
  | int i t=>cases e;exact⟨.list_int _ _ g hu,.list_int _ _ g hu,.list_int _ _ g hu⟩
  | str x t=>cases e;exact⟨.list_str _ _ g hu,.list_str _ _ g hu,.list_str _ _ g hu⟩
  | tup xs p=>cases e;exact⟨.list_tuple g p hu,.of_refs (λz=>by subst z;exact FA p g)<|.list_tuple g p hu,.list_tuple g p hu⟩
  | lst p=>cases e
def AF{a:A}{x:V}(h:AV X.K ρ H a x)(e:OY S a=some (.tup xs)):a=.tup xs/\∃p vs,x=.ref p/\H p=some (.tup vs)/\AVs X.K ρ H xs vs:=by
 cases h with
 | tup h r=>cases e;exact⟨rfl,_,_,rfl,h,r⟩
 | ref h=>obtain⟨_,_,z⟩:=aV.mp e;cases z
 | _=>cases e
def z_{i:Nat}{x:V}(h:AV X.K ρ H (.ref i) x):∃p,x=.ref p/\ρ[i]?=some p:=by
 cases h with
 | ref h=>exact⟨_,rfl,h⟩
def Hz{a:A}(e:OY S a=some .lst):∃i,a=.ref i:=by
 cases a with
 | ref i=>exact⟨i,rfl⟩
 | _=>cases e
def KY{n:Nat}{a:A}{k:Bool}(e:sM S (n+1) a b=some k):(∃i j xs ys,a=.ref i/\b=.ref j/\iG S i=some xs/\iG S j=some ys/\sC (sM S n) xs ys=some k)\/(∃h h',OY S a=some h/\OY S b=some h'/\Nk (sM S n) h h'=some k/\(h=.lst->h'≠.lst)):=by
 unfold sM at e;split at e
 ·obtain⟨xs,e1,e⟩:=bD.mp e;obtain⟨ys,e2,e⟩:=bD.mp e;exact .inl ⟨_,_,xs,ys,rfl,rfl,e1,e2,e⟩
 ·rename_i d;obtain⟨h,e1,e⟩:=bD.mp e;obtain⟨h',e2,e⟩:=bD.mp e;refine .inr ⟨h,h',e1,e2,e,λg f=>?_⟩;subst g f;obtain⟨i,rfl⟩:=Hz e1;obtain⟨j,rfl⟩:=Hz e2;exact d i j rfl rfl
def Mu{f:A->A->bj}{k:Bool}(d:KdV s h u)(d':KdV s h' u)(nt:∀xs ys,h=.tup xs->h'≠.tup ys)(e:Nk f h h'=some k):k=true:=by
 cases d with
 | jC=>cases d';exact(aR e).symm
 | bl b=>cases d';exact(aR e).symm.trans (cY b)
 | int b=>cases d';exact(aR e).symm.trans (cY b)
 | str b=>cases d';exact(aR e).symm.trans (cY b)
 | tup xs p=>cases d' with
  | tup=>exact absurd rfl (nt _ _ rfl)
  | lst q=>exact(FA p q).elim
 | lst p=>cases d' with
  | tup _ q=>exact(FA q p).elim
  | lst q=>cases e
def BG{f:A->A->bj}(hf:∀a b x u k,AV X.K ρ H a x->AV X.K ρ H b x->RelV x u->f a b=some k->k=true):∀{xs ys:ad}{vs:List V}{us:ar}{k:Bool},AVs X.K ρ H xs vs->AVs X.K ρ H ys vs->Vals vs us->sC f xs ys=some k->k=true:=by
 intro xs ys vs us k h1 d q e
 induction q generalizing xs ys k with
 | nil=>cases h1;cases d;exact(aR e).symm
 | cons g _ j=>
  cases h1 with
  | cons h t=>cases d with
   | cons h' m=>
    obtain⟨p,e1,e⟩:=bD.mp e;obtain⟨q,e2,e3⟩:=aV.mp e;rw[<- e3,hf _ _ _ _ p h h' g e1,j t m e2];rfl
def E8(h h':Sh):(∃xs ys,h=.tup xs/\h'=.tup ys)\/(∀xs ys,h=.tup xs->h'≠.tup ys):=by
 cases h with
 | tup xs=>cases h' with
  | tup ys=>exact .inl ⟨xs,ys,rfl,rfl⟩
  | _=>exact .inr λ_ _ _ z=>nomatch z
 | _=>exact .inr λ_ _ z=>nomatch z
theorem zP(I:Inv X pins σ H s)(R:Rel X.K ρ H S):∀(n:Nat) (a b:A) (x:V) (u:aa) (k:Bool),AV X.K ρ H a x->AV X.K ρ H b x->RelV x u->sM S n a b=some k->k=true
 | 0,_,_,_,_,_,_,_,_,e=>nomatch e
 | n+1,a,b,x,u,k,ha,hb,ru,e=>by
  rcases KY e with⟨i,j,xs,ys,rfl,rfl,e1,e2,e⟩|⟨h,h',e1,e2,e,_⟩
  ·obtain⟨p,rfl,h1⟩:=z_ ha;obtain⟨q,z,m⟩:=z_ hb
   cases z
   obtain⟨vs,d,r1⟩:=R.lst h1<|iW e1;obtain⟨t,f,r2⟩:=R.lst m<|iW e2;rw[d]at f
   cases f
   obtain⟨us,q,_⟩:=I.list<|kP.of d;exact BG (λa b x u k=>zP I R n a b x u k) r1 r2 q e
  ·rcases E8 h h' with⟨xs,ys,rfl,rfl⟩|g
   ·obtain⟨rfl,p,vs,rfl,d,r1⟩:=AF ha e1;obtain⟨rfl,q,t,z,f,r2⟩:=AF hb e2
    cases z
    have:=I.za (m8.of d)<|m8.of f;subst this;obtain⟨us,q,_⟩:=I.tuple<|m8.of d;exact BG (λa b x u k=>zP I R n a b x u k) r1 r2 q e
   ·exact Mu (D6 I R ha ru e1) (D6 I R hb ru e2) g e
abbrev yH (f:A->A->bj)(xs ys:ad)(j:Nat):Bool:=match xs[j]?,ys[j]? with
 | some x,some y=>(f x y).getD true
 | _,_=>true
theorem wR{f:A->A->bj}:∀{xs ys:ad}{k:Bool},sC f xs ys=some k->k=((List.range<|min xs.length ys.length).all (yH f xs ys) && xs.length == ys.length)/\∀j x y,xs[j]?=some x->ys[j]?=some y->f x y=some (yH f xs ys j)
 | [],[],k,e=>⟨(aR e).symm,λj x y h=>by simp at h⟩
 | [],_::_,k,e=>⟨(aR e).symm,λj x y h=>by simp at h⟩
 | _::_,[],k,e=>⟨(aR e).symm,λj x y _ h=>by simp at h⟩
 | x::xs,y::ys,k,e=>by
  unfold sC at e
  cases e1:f x y with
  | none=>rw[e1]at e;cases e
  | some p=>
   rw[e1]at e;obtain⟨q,e2,e3⟩:=aV.mp e;obtain⟨h1,m⟩:=wR e2;have g:yH f (x::xs) (y::ys) 0=p:=by simp[yH,e1]
   have ps:∀j,yH f (x::xs) (y::ys) (j+1)=yH f xs ys j:=λj=>by simp[yH]
   refine⟨?_,λj a b d hb=>?_⟩
   ·rw[<- e3,h1,bB,bB,Nat.succ_min_succ,fY,all_cons,all_map,g];have:(yH f (x::xs) (y::ys) ∘ Nat.succ)=yH f xs ys:=funext ps;rw[this,Bool.and_assoc];simp
   ·cases j with
    | zero=>
     simp at d hb;subst d hb;rw[g];exact e1
    | succ j=>rw[ps];exact m j a b (by simpa using d)<|by simpa using hb
def wM{f:A->A->bj}(hf:∀a b x y u v k,AV X.K ρ H a x->AV X.K ρ H b y->RelV x u->RelV y v->f a b=some k->SeqAt.EqAt B s u v k){us ts:ar}{k:Bool}
  (r1:AVs X.K ρ H xs vs) (r2:AVs X.K ρ H ys ws) (q1:Vals vs us) (q2:Vals ws ts) (e:sC f xs ys=some k):∀j (h1:j<us.toArray.size) (h2:j<ts.toArray.size),SeqAt.EqAt B s us.toArray[j] ts.toArray[j] (yH f xs ys j):=by
 intro j h1 h2;have N:=r1.length;have J:=r2.length;have O:=q1.length;have L:=q2.length;have hx:j<xs.length:=by simp at h1;lia
 have hy:j<ys.length:=by simp at h2;lia
 have e1:xs[j]?=some xs[j]:=aF hx;have e2:ys[j]?=some ys[j]:=aF hy;obtain⟨x,ex,z⟩:=r1.get e1;obtain⟨y,m,q⟩:=r2.get e2;obtain⟨u,G,C⟩:=q1.get ex;obtain⟨t,F,rt⟩:=q2.get m;have d:us.toArray[j]=u:=by
  have:us[j]?=some us.toArray[j]:=by simp at h1;simp[h1]
  rw[G]at this;exact(aR this).symm
 have g:ts.toArray[j]=t:=by
  have:ts[j]?=some ts.toArray[j]:=by simp at h2;simp[h2]
  rw[F]at this;exact(aR this).symm
 rw[d,g];exact hf _ _ x y u t _ z q C rt<|(wR e).2 j _ _ e1 e2
def in1_units(B:au):B.in1.units=B.units+1:=rfl
theorem D4(I:Inv X pins σ H s)(R:Rel X.K ρ H S):∀(n:Nat) (B:au) (a b:A) (x y:V) (u v:aa) (k:Bool),B.units+n<cLine->AV X.K ρ H a x->AV X.K ρ H b y->RelV x u->RelV y v->sM S n a b=some k->Al B s u v k
 | 0,_,_,_,_,_,_,_,_,_,_,_,_,_,e=>nomatch e
 | n+1,B,a,b,x,y,u,v,k,hu,ha,hb,rx,ry,e=>by
  have f:B.units<cLine:=()
  have d:∀a b x y u v k,AV X.K ρ H a x->AV X.K ρ H b y->RelV x u->RelV y v->sM S n a b=some k->SeqAt.EqAt B.in1 s u v k:=λa b x y u v k h1 O G L Y=>(D4 I R n B.in1 a b x y u v k (by rw[in1_units];lia) h1 O G L Y).2.1;have same:=λ(z:y=x)=>zP I R (n+1) a b x u k ha (z ▸ hb) rx e;have m:∀{p q:aj},x=.ref p->y=.ref q->u=.ref p->v=.ref q->SeqAt.RcAt B s u v k->SeqAt.EqAt B s u v k:=λ{p q} g t z3 z4 h=>by
   subst z3 z4;by_cases hp:p=q
   ·subst hp;rw[same<|t.trans g.symm];exact .same _
   ·exact .of_refs hp h
  rcases KY e with⟨i,j,xs,ys,rfl,rfl,e1,e2,e⟩|⟨h,h',e1,e2,e,_⟩
  ·obtain⟨p,rfl,h1⟩:=z_ ha;obtain⟨q,rfl,O⟩:=z_ hb;obtain⟨vs,G,r1⟩:=R.lst h1<|iW e1;obtain⟨ws,L,r2⟩:=R.lst O<|iW e2;obtain⟨us,F,p1,_⟩:=I.list<|kP.of G;obtain⟨ts,C,p2,_⟩:=I.list<|kP.of L;have N:=m rfl rfl rx ry
   cases(show u=Value.ref p from rx)
   cases(show v=Value.ref q from ry)
   have Z:=r1.length;have l2:=r2.length;have W:=F.length;have l4:=C.length;have ek:=(wR e).1;by_cases P:xs.length=ys.length
   ·rw[<- P,Nat.min_self,cY,Bool.and_true]at ek;have J:us.toArray.size=ts.toArray.size:=by simp;lia
    have g:=SeqAt.RcAt.lists p1.isList p2.isList J f<|wM d r1 r2 F C e;have t:=SeqAt.RcNeAt.lists p1.isList p2.isList J f<|wM d r1 r2 F C e;rw[aP,<- W,<- Z,<- ek]at g t;exact⟨g,N g,t⟩
   ·have:(xs.length == ys.length)=false:=by simpa using P
    rw[this,bO]at ek;subst ek;have J:(us.toArray.size != ts.toArray.size)=true:=by simp;lia
    have g:=SeqAt.RcAt.lists_lengths p1.isList p2.isList J f;exact⟨g,N g,SeqAt.RcNeAt.lists_lengths p1.isList p2.isList J f⟩
  ·rcases E8 h h' with⟨xs,ys,rfl,rfl⟩|U
   ·obtain⟨rfl,p,vs,rfl,G,r1⟩:=AF ha e1;obtain⟨rfl,q,ws,rfl,L,r2⟩:=AF hb e2;have N:=m rfl rfl rx ry
    cases(show u=Value.ref p from rx)
    cases(show v=Value.ref q from ry)
    obtain⟨us,F,p1,_⟩:=I.tuple<|m8.of G;obtain⟨ts,C,p2,_⟩:=I.tuple<|m8.of L;have ek:=(wR e).1;have g:=SeqAt.RcAt.tuples p1 p2 f<|wM d r1 r2 F C e;have t:=SeqAt.RcNeAt.tuples p1 p2 f<|wM d r1 r2 F C e;rw[aP,aP,<- F.length,<- C.length,<- r1.length,<- r2.length,<- ek]at g t;exact⟨g,N g,t⟩
   ·exact Q8 f (D6 I R ha rx e1) (D6 I R hb ry e2) U e
end
section
variable {X:Cx}
abbrev pO (neg:Bool)(a b:A)(S:iM):R A:=opt (sM S 12 a b) λk=>.ok (.bl<|if neg then !k else k) S
def nA(hu:X.A.units+64<cLine):nO X (compareOp .Eq) (r2 X<|pO false):=λpins s σ H x y v u Q I rx ry h9=>by
 k_ne;obtain⟨k,e,h⟩:=iV h;exact(D4 I R 12 X.A a b x y v u k (by omega) va vb rx ry e).1 _ _ _ _ ⟨.bl _,H,I,rfl,h _ _ _ .refl R<|.bl _⟩
def MG(hu:X.A.units+64<cLine):nO X (compareOp .NotEq) (r2 X<|pO true):=λpins s σ H x y v u Q I rx ry h9=>by
 k_ne;obtain⟨k,e,h⟩:=iV h;exact(D4 I R 12 X.A a b x y v u k (by omega) va vb rx ry e).2.2 _ _ _ _ ⟨.bl _,H,I,rfl,h _ _ _ .refl R<|.bl _⟩
end
section
variable {X:Cx}{pos:Pos}{a b:aC}
meta abbrev Pt:=ad->iM->R (bi)
abbrev sN:Pt:=λ_ S=>.ok none S
abbrev sO (c:Ex):Pt:=λτ S=>(c τ S).bind λa S1=>match a with
 | .int i=>.ok (some i) S1
 | _=>.no
abbrev tO (X:Cx)(c:Pt):TO:=λσ H Q=>∃ρ S τ,Rel X.K ρ H S/\SR X.K ρ H τ σ/\(c τ S).post (λo d=>∀ρ' H',Ext ρ ρ' H H'->Rel X.K ρ' H' d->Q o H') (XE X ρ H)
abbrev AO (X:Cx)(e:Option aC)(c:Pt):Prop:=PO X e<|tO X c
def zS:AO X none sN:=λpins s σ H Q I ⟨ρ,S,τ,R,r,h⟩=>Ma pins s σ H Q I<|h ρ H .refl R
def Ad{c:Ex}(ha:AE X a c):AO X (some a) (sO c):=λpins s σ H Q I ⟨ρ,S,τ,R,r,h⟩=>M_ ha pins s σ H Q I ⟨ρ,S,τ,R,r,iN (iT h) .refl λx S1 h1 ρ1 H1 v e1 f d=>by
 cases d<;>first|exact h1.elim|exact⟨_,rfl,h1 ρ1 H1 e1 f⟩⟩
abbrev vf (xs:ad)(lo hi:bi):ad:=(xs.drop<|HT.lW xs.length 0 lo).take<|HT.lW xs.length xs.length hi-HT.lW xs.length 0 lo
def AVs.cut{K:aq}{H:Hp}(r:AVs K ρ H xs vs)(lo hi:bi):AVs K ρ H (vf xs lo hi) (BQ vs lo hi):=by
 unfold vf BQ;rw[r.length];exact(r.drop _).take _
abbrev Sk (a:A)(lo hi:bi)(S:iM):R A:=match a with
 | .ref n=>opt (iG S n) λxs=>.ok (.ref S.length) (S++[.lst<|vf xs lo hi])
 | .frz xs=>.ok (.ref S.length) (S++[.lst<|vf xs lo hi])
 | .tup xs=>gd (¬(HT.lW xs.length 0 lo=0/\HT.lW xs.length xs.length hi=xs.length)) (.ok (.tup<|vf xs lo hi) S)
 | _=>.no
abbrev LS (c:Ex)(lo hi:Pt):Ex:=λτ S=>(c τ S).bind λa S1=>(lo τ S1).bind λl S2=>(hi τ S2).bind λu S3=>Sk a l u S3
abbrev rS (X:Cx):V->bi->bi->Hp->VK->Prop:=λx lo hi H Q=>∃ρ S a,Rel X.K ρ H S/\AV X.K ρ H a x/\(Sk a lo hi S).post (tY X ρ H Q) (XE X ρ H)
def O8:SG X (rS X):=λpins s σ H x v f d lo hi k Q I rx hs j g h9=>by
 obtain⟨ρ,S,a,R,va,h⟩:=h9
 cases va with
 | @tup p xs vs h1 r1=>
  obtain⟨hc,h⟩:=jd h;exact Qf pins s σ H _ v f d lo hi k Q I rx hs j g ⟨p,vs,rfl,(m8.of h1),by rw[<- r1.length];exact hc,qF R (r1.cut lo hi) .refl h⟩
 | @frz p xs vs h1 r1=>exact E4 pins s σ H _ v f d lo hi k Q I rx hs j g ⟨p,vs,rfl,h1.LR,l5 R (r1.cut lo hi) .refl h⟩
 | @ref p n hp=>
  gn_on;obtain⟨vs,h1,r1⟩:=R.lst hp<|iW hn;exact E4 pins s σ H _ v f d lo hi k Q I rx hs j g ⟨p,vs,rfl,kP.of h1,l5 R (r1.cut lo hi) .refl h⟩
 | _=>exact h.elim
def Kq{lo:Option aC}{c:Ex}{cl ch:Pt}(he:AE X e c)(hl:AO X lo cl)(hh:AO X hi ch):AE X (.Subscript e (.Slice lo hi none p2) pos) (LS c cl ch):=PE.imp (IV O8 he hl hh) λσ H Q h9=>by
 room;refine⟨ρ,S,τ,R,r,iN (iT h) .refl λa S1 h1 ρ1 H1 x e1 k f=>⟨ρ1,S1,τ,k,r.ext e1,iN (iT h1) e1 λl S2 m d H2 e2 R2=>⟨d,S2,τ,R2,r.ext<|e1.trans e2,iN (iT m) (e1.trans e2) λu S3 g ρ3 q e3 j=>?_⟩⟩⟩;exact⟨ρ3,S3,a,j,f.ext<|e2.trans e3,iN g (e1.trans<|e2.trans e3) λ_ _ z=>z.ext<|e1.trans<|e2.trans e3⟩
abbrev Dj (a:A)(S:iM):R A:=match a with
 | .ref n=>opt (iG S n) λxs=>.ok (.ref S.length) (S++[.lst xs.reverse])
 | .tup xs=>.ok (.tup xs.reverse) S
 | _=>.no
def IS{cp:Pos}{c:Ex}(he:AE X e c):AE X (.Subscript e (.Slice none none (some<|.UnaryOp .USub (.Constant (.int 1) kk cp) up) p2) pos) (Bx Dj c):=λpins s σ H Q I h9=>by
 room;have hb:=iT h
 cases hc:c τ S with
 | no=>rw[hc]at hb;exact hb.elim
 | ex x S1=>
  rw[hc]at hb;exact Fp he pins s σ H Q I ⟨ρ,S,τ,R,r,by rw[hc];exact hb⟩
 | ok a S1=>
  rw[hc]at hb;have hb:(Dj a S1).post (tY X ρ H Q) (XE X ρ H):=hb
  cases a with
  | tup xs=>
   refine Fp he pins s σ H Q I ⟨ρ,S,τ,R,r,?_⟩;rw[hc];intro ρ1 H1 x e1 d f
   cases f with
   | tup h1 r1=>exact⟨_,_,rfl,(m8.of h1),qF d r1.reverse e1 hb⟩
  | ref n=>
   refine MB he pins s σ H Q I ⟨ρ,S,τ,R,r,?_⟩;rw[hc];intro ρ1 H1 x e1 d f;obtain⟨xs,hn,h⟩:=iV hb
   cases f with
   | ref hp=>
    obtain⟨vs,h1,r1⟩:=d.lst hp<|iW hn;exact⟨_,_,rfl,kP.of h1,l5 d r1.reverse e1 h⟩
  | _=>exact hb.elim
abbrev iX (f:ad->iM->R A)(d:qJ):Ex:=λτ S=>(d τ S).bind λg S1=>f g S1
def A0{f:ad->iM->R A}{d:qJ}{H:Hp}{Q:VK}(h:tE X (iX f d) σ H Q):Tz (rN X f) (tL X d) σ H Q:=by
 obtain⟨ρ,S,τ,R,r,h⟩:=h;exact⟨ρ,S,τ,R,r,iN (iT h) .refl λj S1 h1 ρ1 H1 vs e1 k g=>⟨ρ1,S1,j,k,g,iN h1 e1 λ_ _ z=>z.ext e1⟩⟩
variable {x:Str}{p:Pos}{e:aC}{es:List aC}{id T:String}{f:ad->iM->R A}{d:qJ}
def iQ(hc:jH X (.builtin id)<|rN X f)(hm:X.mg x=none)(hv:bootBuiltins x=some (.builtin id))(ha:AL X (e::es) d)(hg:Gl X x:=by rfl)(hn:x ≠ "__name__" := by decide)(hdb:(x == ("__debug__" : Str))=false:=by decide)
  (he:starEach (e::es) X.env=(false,eval e X.env)::starEach es X.env:=by rfl) (hpl:(backTo pos<|starEach es X.env).any (·.1)=false:=by rfl):AE X (.Call (.Name x p) (e::es) [] pos) (iX f d):=
 PE.imp (AU hc hg hm hv ha hn hdb he hpl) λ_ _ _ h=>A0 h
def kK(hc:jH X (.type T)<|rN X f)(hm:X.mg x=none)(hv:bootBuiltins x=some (.type T))(ha:AL X (e::es) d)(hg:Gl X x:=by rfl)(hn:x ≠ "__name__" := by decide)(hdb:(x == ("__debug__" : Str))=false:=by decide)
  (he:starEach (e::es) X.env=(false,eval e X.env)::starEach es X.env:=by rfl) (hpl:(backTo pos<|starEach es X.env).any (·.1)=false:=by rfl):AE X (.Call (.Name x p) (e::es) [] pos) (iX f d):=
 PE.imp (Gm hc hg hm hv ha hn hdb he hpl) λ_ _ _ h=>A0 h
def vU(hm:X.mg x=none)(hv:bootBuiltins x=some (.type T))(hg:Gl X x:=by rfl)(hn:x ≠ "__name__" := by decide)(hdb:(x == ("__debug__" : Str))=false:=by decide):AE X (.Name x pos) (eC<|.ty T):=
 PE.imp (FH (v:=.ty T) hg hm hv rfl hn hdb) λσ H Q ⟨ρ,S,τ,R,r,h⟩=>h ρ H _ .refl R<|.ty T
abbrev A.seq (S:iM):A->Option (ad)
 | .tup xs=>some xs
 | .frz xs=>some xs
 | .ref n=>iG S n
 | _=>none
def Ks{K:aq}{H:Hp}{x:A}{v:V}(R:Rel K ρ H S)(h:AV K ρ H x v)(e:x.seq S=some xs):∃p vs,v=.ref p/\(kP K H p vs\/m8 K H p vs)/\AVs K ρ H xs vs:=by
 cases h with
 | tup h r=>cases aR e;exact⟨_,_,rfl,.inr<|m8.of h,r⟩
 | frz h r=>cases aR e;exact⟨_,_,rfl,.inl h.LR,r⟩
 | ref h=>
  obtain⟨vs,h1,r1⟩:=R.lst h<|iW e;exact⟨_,vs,rfl,.inl<|kP.of h1,r1⟩
 | _=>cases e
def MJ{K:aq}{H:Hp}{x:A}(h:AVs K ρ H [x] vs):∃v,vs=[v]/\AV K ρ H x v:=by
 cases h with
 | cons h t=>cases t;exact⟨_,rfl,h⟩
def QM{K:aq}{H:Hp}{x:A}(h:AVs K ρ H [x,y] vs):∃v w,vs=[v,w]/\AV K ρ H x v/\AV K ρ H y w:=by
 cases h with
 | cons h t=>obtain⟨w,rfl,h'⟩:=MJ t;exact⟨_,_,rfl,h,h'⟩
abbrev f1 (g:A->iM->R A):ad->iM->R A:=λd S=>match d with
 | [x]=>g x S
 | _=>.no
abbrev f2 (g:A->A->iM->R A):ad->iM->R A:=λd S=>match d with
 | [x,y]=>g x y S
 | _=>.no
def ME{g:A->iM->R A}{P:A->iM->Prop}{E:Str->iM->Prop}(h:(f1 g as S).post P E):∃x,as=[x]/\(g x S).post P E:=by
 match as,h with
 | [],h=>exact h.elim
 | [x],h=>exact⟨x,rfl,h⟩
 | _::_::_,h=>exact h.elim
def M3{g:A->A->iM->R A}{P:A->iM->Prop}{E:Str->iM->Prop}(h:(f2 g as S).post P E):∃x y,as=[x,y]/\(g x y S).post P E:=by
 match as,h with
 | [],h=>exact h.elim
 | [_],h=>exact h.elim
 | [x,y],h=>exact⟨x,y,rfl,h⟩
 | _::_::_::_,h=>exact h.elim
def N_{g:A->iM->R A}{H:Hp}{Q:VK}(h:rN X (f1 g) vs H Q):∃v,vs=[v]/\∃ρ S x,Rel X.K ρ H S/\AV X.K ρ H x v/\(g x S).post (tY X ρ H Q) (XE X ρ H):=by
 obtain⟨ρ,S,d,R,v,h⟩:=h;obtain⟨x,rfl,h⟩:=ME h;obtain⟨w,rfl,hv⟩:=MJ v;exact⟨w,rfl,ρ,S,x,R,hv,h⟩
def RG{g:A->A->iM->R A}{H:Hp}{Q:VK}(h:rN X (f2 g) vs H Q):∃v w,vs=[v,w]/\∃ρ S x y,Rel X.K ρ H S/\AV X.K ρ H x v/\AV X.K ρ H y w/\(g x y S).post (tY X ρ H Q) (XE X ρ H):=by
 obtain⟨ρ,S,j,R,v,h⟩:=h;obtain⟨x,y,rfl,h⟩:=M3 h;obtain⟨w,f,rfl,hv,d⟩:=QM v;exact⟨w,f,rfl,ρ,S,x,y,R,hv,d,h⟩
abbrev kj (x:A)(S:iM):R A:=match x with
 | .str x=>gd (x.length<=sizeLine) (.ok (.int x.length) S)
 | .tup xs=>.ok (.int xs.length) S
 | .frz xs=>.ok (.int xs.length) S
 | .ref n=>opt (iG S n) λxs=>.ok (.int xs.length) S
 | _=>.no
def jT:jH X (.builtin "len") (rN X<|f1 kj):=jH.imp JH λvs H Q h0=>by
 kpf_c;clear h0
 cases hv with
 | str z=>
  obtain⟨d,h⟩:=jd h;exact⟨_,_,rfl,⟨d,rfl⟩,h _ _ _ .refl R<|.int _⟩
 | @tup p xs us h1 r=>exact⟨_,us.length,rfl,.inr ⟨us,(m8.of h1),rfl⟩,by rw[<- r.length];exact h _ _ _ .refl R<|.int _⟩
 | @frz p xs us h1 r=>exact⟨_,us.length,rfl,.inl ⟨us,h1.LR,rfl⟩,by rw[<- r.length];exact h _ _ _ .refl R<|.int _⟩
 | ref hp=>
  gn_on;obtain⟨us,h1,r⟩:=R.lst hp<|iW hn;exact⟨_,us.length,rfl,.inl ⟨us,kP.of h1,rfl⟩,by rw[<- r.length];exact h _ _ _ .refl R<|.int _⟩
 | _=>exact h.elim
abbrev TV (x:A)(S:iM):R A:=match x with
 | .int i=>.ok (.int<|if i<0 then -i else i) S
 | _=>.no
abbrev Js (x y:A)(S:iM):R A:=match x,y with
 | .int i,.int j=>.ok (.int<|if j>i then j else i) S
 | _,_=>.no
def PY(hc:X.calm=true):jH X (.builtin "max") (rN X<|f2 Js):=jH.imp (G2 hc) λvs H Q h0=>by
 obtain⟨w,f,rfl,ρ,S,x,y,R,hv,d,h⟩:=RG h0;clear h0
 cases hv<;>first|exact h.elim|(cases d<;>first|exact h.elim|exact⟨_,_,rfl,h _ _ _ .refl R<|.int _⟩)
abbrev LM (x y:A)(S:iM):R A:=match x,y with
 | .int i,.int j=>.ok (.int<|if j<i then j else i) S
 | _,_=>.no
def P7(hc:X.calm=true):jH X (.builtin "min") (rN X<|f2 LM):=jH.imp (Gf hc) λvs H Q h0=>by
 obtain⟨w,f,rfl,ρ,S,x,y,R,hv,d,h⟩:=RG h0;clear h0
 cases hv<;>first|exact h.elim|(cases d<;>first|exact h.elim|exact⟨_,_,rfl,h _ _ _ .refl R<|.int _⟩)
abbrev NS (x:A)(S:iM):R A:=match x with
 | .int i=>.ok (.int i) S
 | .bl k=>.ok (.int<|if k then 1 else 0) S
 | .str y=>opt (PySem.intText? y) λn=>gd (y.length<=640) (.ok (.int n) S)
 | _=>.no
abbrev wK (x y:A)(S:iM):R A:=match x,y with
 | .int i,.int j=>.ok (.rng i j) S
 | _,_=>.no
def BU:jH X (.type "range") (rN X<|f2 wK):=jH.imp Ak λvs H Q h0=>by
 obtain⟨w,g,rfl,ρ,S,x,y,R,hv,d,h⟩:=RG h0;clear h0
 cases hv with
 | int i=>
  cases d with
  | int j=>
   refine⟨i,j,rfl,λp hp=>?_⟩;obtain⟨ex,f⟩:=R.im (u:=.rng i j) hp;exact h ρ _ _ ex f<|.rng jy
  | _=>exact h.elim
 | _=>exact h.elim
abbrev yL (i j:Int):Prop:=(-(2 ^ 62)<=i/\i<2 ^ 62/\-(2 ^ 62)<=j/\j<2 ^ 62)/\(j-i).toNat<=1000
instance (i j:Int):Decidable (yL i j):=by unfold yL;infer_instance
abbrev mW (x:A)(S:iM):R A:=match x with
 | .rng i j=>gd (yL i j) (.ok (.ref S.length)<|S++[.lst<|(jG i j).map .int])
 | .tup xs=>.ok (.ref S.length) (S++[.lst xs])
 | .frz xs=>.ok (.ref S.length) (S++[.lst xs])
 | .ref n=>opt (iG S n) λxs=>.ok (.ref S.length) (S++[.lst xs])
 | _=>.no
theorem rz(hc:X.calm=true):jH X (.type "list") (rN X<|f1 mW):=λpins s σ H vs us Q I rx h0=>by
 kpf_c;clear h0
 cases hv with
 | @rng p i j hp=>
  obtain⟨d,h⟩:=jd h;exact yw hc pins s σ H _ us Q I rx ⟨p,i,j,rfl,hp,d.1,d.2,l5 R (rJ _) .refl h⟩
 | @tup p xs vs h1 r=>exact qi pins s σ H _ us Q I rx ⟨p,vs,rfl,.inr<|m8.of h1,l5 R r .refl h⟩
 | @frz p xs vs h1 r=>exact qi pins s σ H _ us Q I rx ⟨p,vs,rfl,.inl h1.LR,l5 R r .refl h⟩
 | @ref p n hp=>
  gn_on;obtain⟨vs,h1,r⟩:=R.lst hp<|iW hn;exact qi pins s σ H _ us Q I rx ⟨p,vs,rfl,.inl<|kP.of h1,l5 R r .refl h⟩
 | _=>exact h.elim
abbrev pJ (x:A)(S:iM):R A:=match x with
 | .rng i j=>gd (yL i j) (.ok (.tup<|(jG i j).map .int) S)
 | .tup xs=>.ok (.tup xs) S
 | .frz xs=>.ok (.tup xs) S
 | .ref n=>opt (iG S n) λxs=>.ok (.tup xs) S
 | _=>.no
def ES(hc:X.calm=true):jH X (.type "tuple") (rN X<|f1 pJ):=λpins s σ H vs us Q I rx h0=>by
 kpf_c;clear h0
 cases hv with
 | @rng p i j hp=>
  obtain⟨d,h⟩:=jd h;exact xg hc pins s σ H _ us Q I rx ⟨p,i,j,rfl,hp,d.1,d.2,qF R (rJ _) .refl h⟩
 | @tup p xs vs h1 r=>exact pF pins s σ H _ us Q I rx ⟨p,vs,rfl,.inr ⟨(m8.of h1),h _ _ _ .refl R<|.tup h1 r⟩⟩
 | @frz p xs vs h1 r=>exact pF pins s σ H _ us Q I rx ⟨p,vs,rfl,.inl ⟨h1.LR,qF R r .refl h⟩⟩
 | @ref p n hp=>
  gn_on;obtain⟨vs,h1,r⟩:=R.lst hp<|iW hn;exact pF pins s σ H _ us Q I rx ⟨p,vs,rfl,.inl ⟨kP.of h1,qF R r .refl h⟩⟩
 | _=>exact h.elim
abbrev A.Nl:ad->Option (List Bool)
 | []=>some []
 | .bl b::xs=>(A.Nl xs).map (b::·)
 | _=>none
theorem Lw{K:aq}{H:Hp}:∀{xs:ad}{vs:List V}{bs:List Bool},AVs K ρ H xs vs->A.Nl xs=some bs->vs=bs.map V.bl
 | _,_,_,.nil,e=>by cases e;rfl
 | x::xs,_,bs,.cons h t,e=>by
  cases x with
  | bl b=>
   obtain⟨cs,e1,rfl⟩:=aV.mp (show(A.Nl xs).map (b::·)=some bs from e)
   cases h
   rw[Lw t e1];rfl
  | _=>cases e
abbrev BP (x:A)(S:iM):R A:=match x with
 | .ref n=>opt (iG S n) λxs=>opt (A.Nl xs) λbs=>.ok (.bl<|bs.all λb=>b) S
 | _=>.no
def yS(hc:X.calm=true):jH X (.builtin "all") (rN X<|f1 BP):=jH.imp (GJ hc) λvs H Q h0=>by
 kpf_c;clear h0
 cases hv with
 | @ref p n hp=>
  gn_on;obtain⟨bs,hb,h⟩:=iV h;obtain⟨vs,h1,r⟩:=R.lst hp<|iW hn;rw[Lw r hb]at h1;exact⟨p,bs,rfl,kP.of h1,h _ _ _ .refl R<|.bl _⟩
 | _=>exact h.elim
abbrev insI (x:Int):ae->ae
 | []=>[x]
 | y::ys=>if x<=y then x::y::ys else y::insI x ys
abbrev sortI:ae->ae
 | []=>[]
 | x::xs=>insI x<|sortI xs
theorem insI_perm(x:Int):∀ys:ae,(insI x ys).Perm (x::ys)
 | []=>fZ _
 | y::ys=>by
  unfold insI;by_cases h:x<=y
  ·rw[bf h]
  ·rw[bu h];exact((insI_perm x ys).cons y).trans (List.Perm.swap x y ys)
theorem sortI_perm:∀xs:ae,(sortI xs).Perm xs
 | []=>fZ _
 | x::xs=>(insI_perm x<|sortI xs).trans<|(sortI_perm xs).cons x
theorem FO(x:Int):∀ys:ae,ys.Pairwise (·<=·)->(insI x ys).Pairwise (·<=·)
 | [],_=>List.pairwise_singleton _ _
 | y::ys,h=>by
  unfold insI;obtain⟨h1,f⟩:=gU.mp h;by_cases hx:x<=y
  ·rw[bf hx];exact gU.mpr ⟨λz d=>(bh.mp d).elim (λe=>e ▸ hx) λd=>Int.le_trans hx<|h1 z d,h⟩
  ·rw[bu hx];refine gU.mpr ⟨λz d=>?_,FO x ys f⟩
   rcases bh.mp ((insI_perm x ys).mem_iff.mp d)with e|d
   ·subst e;lia
   ·exact h1 z d
theorem pV:∀xs:ae,(sortI xs).Pairwise (·<=·)
 | []=>List.Pairwise.nil
 | x::xs=>FO x _<|pV xs
abbrev qt (x:A)(S:iM):R A:=opt (x.seq S) λxs=>opt (A.ints xs) λns=>gd (ns.length<64)<|.ok (.ref S.length)<|S++[.lst<|(sortI ns).map .int]
def wO:jH X (.builtin "sorted") (rN X<|f1 qt):=jH.imp As λvs H Q h0=>by
 kpf_c;clear h0;gn_on;obtain⟨ns,hb,h⟩:=iV h;obtain⟨g,h⟩:=jd h;obtain⟨p,us,rfl,hs,r⟩:=Ks R hv hn;rw[E1 r hb]at hs;refine⟨p,ns,rfl,hs,g,λl d f hp hw=>?_⟩;have:d=sortI ns:=L_ (hp.trans (sortI_perm ns).symm) hw<|pV ns;rw[this];exact l5 R (rJ _) .refl h l f
abbrev A.kd:A->iM->Option Kd
 | .jC,_=>some .jC
 | .bl _,_=>some .bl
 | .int _,_=>some .int
 | .str _,_=>some .str
 | .tup _,_=>some .tup
 | .ref n,S=>(iG S n).map λ_=>.lst
 | _,_=>none
def MZ{K:aq}(k:Kd):PySem.W.kitOne K k.ty (.type "str")=some (decide<|k=.str):=by cases k<;>rfl
abbrev m9 (k:Kd)(c:String):bj:=if c = "int" then some (decide<|k=.int\/k=.bl)else if c = "bool" then some (decide<|k=.bl)else if c = "tuple" then some (decide<|k=.tup)else if c = "list" then some (decide<|k=.lst)else if c = "str" then some (decide<|k=.str)else none
def Ew{K:aq}{k:Kd}{b:Bool}(h:m9 k c=some b):PySem.W.kitOne K k.ty (.type c)=some b:=by
 unfold m9 at h;split at h
 ·rename_i e;subst e;rw[<- h];exact Nm k
 ·split at h
  ·rename_i e;subst e;rw[<- h];exact Le k
  ·split at h
   ·rename_i e;subst e;rw[<- h];exact kit_tuple k
   ·split at h
    ·rename_i e;subst e;rw[<- h];exact KU k
    ·split at h
     ·rename_i e;subst e;rw[<- h];exact MZ k
     ·cases h
abbrev yp (x y:A)(S:iM):R A:=match y with
 | .ty c=>opt (x.kd S) λk=>opt (m9 k c) λb=>.ok (.bl b) S
 | _=>.no
def Ss{K:aq}{H:Hp}{x:A}{v:V}{k:Kd}(R:Rel K ρ H S)(h:AV K ρ H x v)(e:x.kd S=some k):(∃p vs,v=.ref p/\m8 K H p vs/\k=.tup)\/PF H v k:=by
 cases h with
 | jC=>cases e;exact .inr rfl
 | bl b=>cases e;exact .inr ⟨b,rfl⟩
 | int i=>cases e;exact .inr ⟨i,rfl⟩
 | str i=>cases e;exact .inr ⟨i,rfl⟩
 | tup h r=>cases e;exact .inl ⟨_,_,rfl,(m8.of h),rfl⟩
 | ref h=>
  obtain⟨xs,e1,e2⟩:=aV.mp e;obtain⟨vs,h1,_⟩:=R.lst h (iW e1)
  cases e2
  exact .inr ⟨_,vs,rfl,h1⟩
 | _=>cases e
def vR:jH X (.builtin "isinstance") (rN X<|f2 yp):=λpins s σ H vs us Q I rx h0=>by
 obtain⟨w,B,rfl,ρ,S,x,y,R,hv,f,h⟩:=RG h0;clear h0
 cases f with
 | ty c=>
  obtain⟨k,g,h⟩:=iV h;obtain⟨b,hb,d⟩:=iV h;have d:tY X ρ H Q (.bl b) S:=d;clear h
  rcases Ss R hv g with⟨p,vs,rfl,m,rfl⟩|hd
  ·obtain⟨G,C,rfl,r1,r2⟩:=vals2 rx;obtain⟨j,q,⟨o,h1,t,_⟩,_⟩:=I.tuple m
   cases(show _=Value.ref p from r1)
   cases(show _=Value.type c from r2)
   exact cI PySem.W.kitx_tuple I.wj ⟨o,h1,t⟩ (Ew hb) (λz=>nomatch z) λF=>⟨.bl b,H,I.tok _,rfl,d _ _ _ .refl R<|.bl _⟩
  ·exact Bd (c:=c) pins s σ H _ us Q I rx ⟨w,_,b,rfl,hd.TZ,Ew hb,d _ _ _ .refl R<|.bl _⟩
 | _=>exact h.elim
end
abbrev RS.post (r:RS)(N:ad->iM->Prop)(T:A->iM->Prop)(B C:ad->iM->Prop)(E:Str->iM->Prop):Prop:=match r with
 | .nx τ S=>N τ S
 | .rt a S=>T a S
 | .bk τ S=>B τ S
 | .ct τ S=>C τ S
 | .ex c S=>E c S
 | .no=>False
abbrev RS.of {α:Type}(r:R α)(f:α->iM->RS):RS:=match r with
 | .ok a S=>f a S
 | .ex c S=>.ex c S
 | .no=>.no
def of_post{α:Type}{r:R α}{f:α->iM->RS}{N B C:ad->iM->Prop}{T:A->iM->Prop}{E:Str->iM->Prop}(h:(RS.of r f).post N T B C E):r.post (λa S=>(f a S).post N T B C E) E:=by
 cases r<;>exact h
def RS.mono{r:RS}{N B C N' B' C':ad->iM->Prop}{T T':A->iM->Prop}{E E':Str->iM->Prop}(h:r.post N T B C E)(hn:∀τ S,N τ S->N' τ S)(ht:∀a S,T a S->T' a S)(hb:∀τ S,B τ S->B' τ S)(hc:∀τ S,C τ S->C' τ S)(he:∀c S,E c S->E' c S):r.post N' T' B' C' E':=by
 cases r with
 | nx τ S=>exact hn _ _ h
 | rt a S=>exact ht _ _ h
 | bk τ S=>exact hb _ _ h
 | ct τ S=>exact hc _ _ h
 | ex c S=>exact he _ _ h
 | no=>exact h.elim
abbrev zL (X:Cx)(ρ:ba)(H:Hp)(N:L2.St->Hp->Prop):ad->iM->Prop:=λf g=>∀ρ' H' d,Ext ρ ρ' H H'->Rel X.K ρ' H' g->SR X.K ρ' H' f d->N d H'
def zL.ext{H H':Hp}{N:L2.St->Hp->Prop}(h:zL X ρ H N τ S)(e:Ext ρ ρ' H H'):zL X ρ' H' N τ S:=λd H2 f e2=>h d H2 f<|e.trans e2
abbrev yl (X:Cx)(ρ:ba)(H:Hp)(D:Ends)(r:RS):Prop:=r.post (zL X ρ H D.nx) (tY X ρ H D.rt) (zL X ρ H D.bk) (zL X ρ H D.ct)<|XE X ρ H
def yl.ext{H H':Hp}{r:RS}(h:yl X ρ H D r)(e:Ext ρ ρ' H H'):yl X ρ' H' D r:=RS.mono h (λ_ _ z=>z.ext e) (λ_ _ z=>z.ext e) (λ_ _ z=>z.ext e) (λ_ _ z=>z.ext e) λ_ _ z=>z.ext e
abbrev tS (X:Cx)(c:Sm):TS:=λD σ H=>∃ρ S τ,Rel X.K ρ H S/\SR X.K ρ H τ σ/\yl X ρ H D (c τ S)
abbrev AS (X:Cx)(st:aE)(c:Sm):Prop:=PS X st<|tS X c
abbrev Hf (X:Cx)(sts:List aE)(c:Sm):Prop:=yo X sts<|tS X c
abbrev tG (X:Cx)(g:Tg):TG:=λv σ H Q=>∃ρ S τ a,Rel X.K ρ H S/\SR X.K ρ H τ σ/\AV X.K ρ H a v/\(g a τ S).post (zL X ρ H Q) (XE X ρ H)
abbrev AG (X:Cx)(e:aC)(g:Tg):Prop:=PG X e<|tG X g
meta abbrev LV:=ad->ad->iM->R (ad)
abbrev Vw (X:Cx)(g:LV):NH:=λvs σ H Q=>∃ρ S τ d,Rel X.K ρ H S/\SR X.K ρ H τ σ/\AVs X.K ρ H d vs/\(g d τ S).post (zL X ρ H Q) (XE X ρ H)
abbrev SO (X:Cx)(es:List aC)(g:LV):Prop:=Si X es<|Vw X g
section
variable {X:Cx}{pos:Pos}{a b e:aC}{st:aE}{rest:List aE}{c d:Sm}
def PS.imp{t t':TS}(h:PS X st t)(i:∀D σ H,t' D σ H->t D σ H):PS X st t':=λpins s σ H D I q=>h pins s σ H D I<|i D σ H q
def yo.imp{t t':TS}(h:yo X rest t)(i:∀D σ H,t' D σ H->t D σ H):yo X rest t':=λpins s σ H D I q=>h pins s σ H D I<|i D σ H q
def PG.imp{t t':TG}(h:PG X e t)(i:∀v σ H Q,t' v σ H Q->t v σ H Q):PG X e t':=λpins s σ H v u Q I r q=>h pins s σ H v u Q I r<|i _ _ _ _ q
abbrev je (i:Nat):Tg:=λa τ S=>.ok (τ.set i a) S
def iY{i:Nat}{x:Str}(hN:X.N.Nodup)(hi:X.N[i]?=some x:=by rfl)(hx:Loc X.env.scope x:=by first|exact Or.inl rfl|exact Or.inr rfl)(hf:X.fn x=true\/X.env.scope.names.lookup x=some .local:=by first|exact .inl rfl|exact .inr rfl|assumption):AG X (.Name x pos) (je i):=
 PG.imp (Ar hN hi hx hf) λv σ H Q ⟨ρ,S,τ,a,R,r,va,h⟩=>h ρ H _ .refl R<|r.set va
abbrev Em:LV:=λd τ S=>match d with
 | []=>.ok τ S
 | _=>.no
abbrev v_ (g:Tg)(gs:LV):LV:=λf τ S=>match f with
 | a::f=>(g a τ S).bind λd S1=>gs f d S1
 | []=>.no
def pq:SO X [] Em:=λpins s σ H vs us Q I r ⟨ρ,S,τ,f,R,d,va,h⟩=>Me pins s σ H vs us Q I r (by
 cases va with
 | nil=>exact⟨rfl,h ρ H σ .refl R d⟩
 | cons _ _=>exact h.elim)
def jX{g:Tg}{gs:LV}(h1:AG X e g)(h2:SO X es gs)(hs:(assignEach (e::es) X.env).map (·.2)=assign e X.env::(assignEach es X.env).map (·.2):=by rfl):SO X (e::es) (v_ g gs):=
 λpins s σ H vs us Q I r ⟨ρ,S,τ,B,R,q,va,h⟩=>Jf h1 h2 hs pins s σ H vs us Q I r (by
  cases va with
  | nil=>exact h.elim
  | cons t m=>exact⟨_,_,rfl,ρ,S,τ,_,R,q,t,iN (iT h) .refl λd S1 h1 ρ1 H1 j e1 k f=>⟨ρ1,S1,d,_,k,f,m.ext e1,iN h1 e1 λ_ _ z=>z.ext e1⟩⟩)
abbrev Ft (n:Nat)(gs:LV):Tg:=λa τ S=>match a with
 | .tup xs | .ktu xs=>gd (xs.length=n) (gs xs τ S)
 | _=>.no
def rL{k n:Nat}{gs:LV}(hc:X.calm=true)(h:SO X es gs)(hn:(assignEach es X.env).length=n:=by rfl)(hst:(assignEach es X.env).findIdx? (·.1)=none:=by rfl):AG X (.Tuple es k pos) (Ft n gs):=
 PG.imp (Px hc h hn hst) λv σ H Q h9=>by
  obtain⟨ρ,S,τ,a,R,r,va,h⟩:=h9
  cases va with
  | tup h1 r1=>
   obtain⟨d,h⟩:=jd h;exact⟨_,_,rfl,m8.of h1,by rw[<- r1.length];exact d,ρ,S,τ,_,R,r,r1,h⟩
  | ktu h1 r1=>
   obtain⟨d,h⟩:=jd h;exact⟨_,_,rfl,.inr h1,by rw[<- r1.length];exact d,ρ,S,τ,_,R,r,r1,h⟩
  | _=>exact h.elim
abbrev BJ (o i v:A)(S:iM):R Unit:=match o,i with
 | .ref n,.int k=>opt (iG S n) λxs=>opt (wV xs.length k) λj=>.ok Unit.unit (S.set n<|.lst<|xs.set j v)
 | _,_=>.no
abbrev Vq (X:Cx):M5:=λo i v H Q=>∃ρ S f d g,Rel X.K ρ H S/\AV X.K ρ H f o/\AV X.K ρ H d i/\AV X.K ρ H g v/\(BJ f d g S).post (λ_ j=>∀ρ' H',Ext ρ ρ' H H'->Rel X.K ρ' H' j->Q H') (XE X ρ H)
def MS:Qo X (Vq X):=λpins s σ H o i v C g u Q I t d m h9=>by
 obtain⟨ρ,S,J,F,G,R,h1,z,f,h⟩:=h9
 cases h1 with
 | @ref p n hp=>
  cases z with
  | int k=>
   gn_on;obtain⟨j,B,h⟩:=iV h;obtain⟨vs,e,r⟩:=R.lst hp<|iW hn;obtain⟨ex,q⟩:=R.put hp (iW hn)<|r.set f j;exact set_list pins s σ H _ _ v C g u Q I t d m ⟨p,vs,k,j,rfl,rfl,e,by rw[<- r.length];exact B,h _ _ ex q⟩
  | _=>exact h.elim
 | _=>exact h.elim
abbrev Cp (co ci:Ex):Tg:=λa τ S=>(co τ S).bind λo S1=>(ci τ S1).bind λi S2=>(BJ o i a S2).bind λ_ S3=>.ok τ S3
def pH{co ci:Ex}(ho:AE X o co)(hi:AE X i ci)
  (ha:∀v,assign (.Subscript o i pos) X.env v=(do
   let ov <- holding [v] (eval o X.env)
   let iv <- holding [v,ov] (eval i X.env)
   standAt pos
   holding [v,ov,iv] (setItem ov iv v)
   release [v,ov,iv] []):=by intro _;rfl):AG X (.Subscript o i pos) (Cp co ci):=PG.imp (Ou ho hi MS ha) λv σ H Q h9=>by
 obtain⟨ρ,S,τ,a,R,r,va,h⟩:=h9;refine⟨ρ,S,τ,R,r,iN (iT h) .refl λo S1 h1 ρ1 H1 x e1 q f=>⟨ρ1,S1,τ,q,r.ext e1,iN (iT h1) e1 λi S2 t d H2 y e2 R2 m=>?_⟩⟩;refine⟨d,S2,o,i,a,R2,f.ext e2,m,va.ext<|e1.trans e2,iN (iT t) (e1.trans e2) λ_ S3 g ρ3 k e3 j=>?_⟩;exact g ρ3 k σ ((e1.trans e2).trans e3) j<|r.ext<|(e1.trans e2).trans e3
abbrev mE:Sm:=λτ S=>.nx τ S
abbrev ja (c d:Sm):Sm:=λτ S=>match c τ S with
 | .nx f g=>d f g
 | r=>r
def jB:Hf X [] mE:=yo.imp Nb λD σ H ⟨ρ,S,τ,R,r,h⟩=>h ρ H σ .refl R r
def Mz{H:Hp}(h:tS X (ja c d) D σ H):RI (tS X c) (tS X d) D σ H:=by
 obtain⟨ρ,S,τ,R,r,h⟩:=h;refine⟨ρ,S,τ,R,r,?_⟩;unfold ja at h
 cases hc:c τ S with
 | nx f S1=>
  rw[hc]at h;exact λρ1 H1 g e1 j r1=>⟨ρ1,S1,f,j,r1,yl.ext h e1⟩
 | rt a S1=>rw[hc]at h;exact h
 | bk f S1=>rw[hc]at h;exact h
 | ct f S1=>rw[hc]at h;exact h
 | ex x S1=>rw[hc]at h;exact h
 | no=>rw[hc]at h;exact h
def iI(h1:AS X st c)(h2:Hf X rest d):Hf X (st::rest) (ja c d):=yo.imp (HN h1 h2) λD σ H h=>Mz h
def iO(h1:AS X st c):Hf X [st] c:=FT h1
abbrev Qk:Sm:=λτ S=>.bk τ S
abbrev QV:Sm:=λτ S=>.ct τ S
abbrev rO (e:Ex):Sm:=λτ S=>.of (e τ S) λ_ S1=>.nx τ S1
def qA{f:Ex}(he:AE X e f)(hs:swapsWith e none pos.line X.env=pure false:=by rfl):AS X (.Expr e pos) (rO f):=PS.imp (ER he hs) λD σ H ⟨ρ,S,τ,R,r,h⟩=>
 ⟨ρ,S,τ,R,r,iN (of_post h) .refl λa S1 h1 ρ1 H1 x e1 d g=>h1 ρ1 H1 σ e1 d<|r.ext e1⟩
abbrev jR (e:Ex):Sm:=λτ S=>.of (e τ S) λa S1=>.rt a S1
def i9{f:Ex}(he:AE X e f):AS X (.Return (some e) pos) (jR f):=PS.imp (O0 he) λD σ H ⟨ρ,S,τ,R,r,h⟩=>⟨ρ,S,τ,R,r,iN (of_post h) .refl λa S1 h1=>h1⟩
abbrev Q5:Sm:=λτ S=>.rt .jC S
abbrev qT (t:Te)(c d:Sm):Sm:=λτ S=>.of (t τ S) λb S1=>match b with|true=>c τ S1|false=>d τ S1
def jV{t:Te}(ht:AT X e t)(ha:Hf X ca c)(hb:Hf X cb d):AS X (.If e ca cb pos) (qT t c d):=PS.imp (QJ ht ha hb) λD σ H h9=>by
 room;refine⟨ρ,S,τ,R,r,iN (of_post h) .refl λb S1 h1 ρ1 H1 e1 f=>?_⟩
 cases b with
 | true=>rw[bf rfl];exact⟨ρ1,S1,τ,f,r.ext e1,yl.ext h1 e1⟩
 | false=>rw[bu bz];exact⟨ρ1,S1,τ,f,r.ext e1,yl.ext h1 e1⟩
abbrev jn (e:Ex)(g:Tg):Sm:=λτ S=>.of (e τ S) λa S1=>.of (g a τ S1) λd S2=>.nx d S2
def Nr{f:Ex}{g:Tg}{H:Hp}(h:tS X (jn f g) D σ H):IX (tE X f) (tG X g) D σ H:=by
 obtain⟨ρ,S,τ,R,r,h⟩:=h;exact⟨ρ,S,τ,R,r,iN (of_post h) .refl λa S1 h1 ρ1 H1 x e1 j d=>⟨ρ1,S1,τ,a,j,r.ext e1,d,iN (of_post h1) e1 λm S2 k=>zL.ext k e1⟩⟩
def ny{tg:aC}{f:Ex}{g:Tg}(he:AE X e f)(hg:AG X tg g)(hs:swapsWithSole [tg] e pos.line X.env=pure false:=by rfl)(hw:swappedStores [tg] e X.env=pure none:=by rfl)
  (h1:(assignEach [tg] X.env).map (·.2)=[assign tg X.env]:=by rfl):AS X (.Assign [tg] e pos) (jn f g):=PS.imp (O5 he hg hs hw h1) λD σ H h=>Nr h
def jc{i:Nat}{x:Str}{f:Ex}(hN:X.N.Nodup)(he:AE X e f)(hi:X.N[i]?=some x:=by rfl)(hx:Loc X.env.scope x:=by first|exact Or.inl rfl|exact Or.inr rfl)(hs:swapsWith e (some<|.Name x pos') pos.line X.env=pure false:=by rfl)(hf:X.fn x=true\/X.env.scope.names.lookup x=some .local:=by first|exact .inl rfl|exact .inr rfl|assumption) :
  AS X (.Assign [.Name x pos'] e pos) (jn f<|je i):=PS.imp (OQ hN hi hx he hs hf) λD σ H ⟨ρ,S,τ,R,r,h⟩=>
 ⟨ρ,S,τ,R,r,iN (of_post h) .refl λa S1 h1 ρ1 H1 x e1 g d=>h1 ρ1 H1 _ e1 g<|(r.ext e1).set d⟩
abbrev Ub (i j:Nat)(c:qJ):Sm:=λτ S=>.of (c τ S) λd S1=>match d with
 | [a,b]=>.nx ((τ.set i a).set j b) S1
 | _=>.no
abbrev ip (X:Cx)(f:A->A->iM->R A):Rb:=λx y H Q=>∃ρ S a b,Rel X.K ρ H S/\AV X.K ρ H a x/\AV X.K ρ H b y/\(f a b S).post (tY X ρ H Q) (XE X ρ H)
abbrev TR (a b:A)(S:iM):R A:=match a,b with
 | .int i,.int j=>.ok (.int<|i+j) S
 | _,_=>.no
def MT:SQ X .Sub (ip X aSub):=λpins s σ H x y v u Q I r1 r2 h9=>by
 k_ne
 cases va with
 | int i=>
  cases vb with
  | int j=>exact Qc pins s σ H _ _ v u Q I r1 r2 ⟨i,j,rfl,rfl,h _ _ _ .refl R<|.int _⟩
  | _=>exact h.elim
 | _=>exact h.elim
abbrev K2 (i:Nat)(f:A->A->iM->R A)(e:Ex):Sm:=λτ S=>if (τ.getD i .unb).j5 then .no else .of (e τ S) λb S1=>.of (f (τ.getD i .unb) b S1) λc S2=>.nx (τ.set i c) S2
def O2{i:Nat}{x:Str}{c:Ex}{f:A->A->iM->R A}(hN:X.N.Nodup)(he:AE X e c)(ho:SQ X op<|ip X f)(hi:X.N[i]?=some x:=by rfl)(hx:Loc X.env.scope x:=by first|exact Or.inl rfl|exact Or.inr rfl)(hf:X.fn x=true\/X.env.scope.names.lookup x=some .local:=by first|exact .inl rfl|exact .inr rfl|assumption) :
  AS X (.AugAssign (.Name x pos') op e pos) (K2 i f c):=PS.imp (Qi hN hi hx he ho hf) λD σ H h9=>by
 room;have g:∀x,τ[i]?=some x->x.j5=false->(RS.of (c τ S) λb S1=>.of (f x b S1) λc S2=>.nx (τ.set i c) S2).post (zL X ρ H D.nx) (tY X ρ H D.rt) (zL X ρ H D.bk) (zL X ρ H D.ct) (XE X ρ H) ->
   ∃x,σ[i]?=some (some x)/\tE X c σ H λy H1=>ip X f x y H1 λz H2=>D.nx (σ.set i<|some z) H2:=by
  intro x hi hx h
  rcases r.at i x hi with z|⟨v,e,q⟩
  ·subst z;cases hx
  ·refine⟨v,e,ρ,S,τ,R,r,iN (of_post h) .refl λb S1 h1 ρ1 H1 y e1 m j=>⟨ρ1,S1,x,b,m,q.ext e1,j,iN (of_post h1) e1 λw S2 t d H2 z e2 R2 k=>?_⟩⟩;exact t d H2 _ (e1.trans e2) R2<|(r.ext<|e1.trans e2).set k
 unfold K2 yl at h;rw[aG]at h
 cases hi:τ[i]? with
 | none=>rw[hi]at h;exact h.elim
 | some x=>
  rw[hi]at h
  cases hx:x.j5 with
  | true=>rw[show(some x).getD .unb=x from rfl,hx]at h;exact h.elim
  | false=>rw[show(some x).getD .unb=x from rfl,hx]at h;exact g x hi hx h
abbrev LX (a b:A)(S:iM):R A:=match a,b with
 | .ref n,.int i=>opt (iG S n) λxs=>gd (0<=i) (opt (xs[i.toNat]?) λx=>.ok x S)
 | _,_=>.no
abbrev Ru (co ci ce:Ex)(f:A->A->iM->R A):Sm:=λτ S=>.of (co τ S) λo S1=>.of (ci τ S1) λi S2=>.of (LX o i S2) λx S3=>.of (ce τ S3) λy S4=>.of (f x y S4) λz S5=>.of (BJ o i z S5) λ_ S6=>.nx τ S6
abbrev lY (t:Te)(c:Sm):Nat->Sm
 | 0=>λ_ _=>.no
 | n+1=>λτ S=>.of (t τ S) λb S1=>match b with
  | false=>.nx τ S1
  | true=>match c τ S1 with
   | .nx d f=>lY t c n d f
   | .ct d f=>lY t c n d f
   | .bk d f=>.nx d f
   | r=>r
def Ja(n:Nat){t:Te}(hp:PassesOwn (model X.prog X.w) X.A X.env X.xe)(ht:AT X e t)(hb:Hf X body c):AS X (.While e body [] pos) (lY t c n):=PS.imp (HW hp ht hb) λD σ H h9=>by
 room;refine⟨λm k H'=>∃ρ' g d,Ext ρ ρ' H H'/\Rel X.K ρ' H' g/\SR X.K ρ' H' d k/\yl X ρ' H' D (lY t c m d g),⟨n,ρ,S,τ,.refl,R,r,h⟩,?_⟩;rintro m B H1 ⟨ρ1,S1,j,e1,J,r1,h1⟩
 cases m with
 | zero=>exact h1.elim
 | succ m=>
  refine⟨ρ1,S1,j,J,r1,iN (of_post h1) .refl λb S2 f q H2 e2 R2=>?_⟩
  cases b with
  | false=>rw[bu bz];exact f q H2 B e2 R2 (r1.ext e2)
  | true=>
   rw[bf rfl];refine⟨λk H'=>∃ρ' g d,Ext ρ ρ' H H'/\Rel X.K ρ' H' g/\SR X.K ρ' H' d k/\yl X ρ' H' D (lY t c m d g),λk H' z=>⟨m,bG _,z⟩,q,S2,j,R2,r1.ext e2,?_⟩;have f:yl X ρ1 H1 D (match c j S2 with
    | .nx d g=>lY t c m d g
    | .ct d g=>lY t c m d g
    | .bk d g=>.nx d g
    | r=>r):=f
   cases hc:c j S2 with
   | nx τ3 S3=>rw[hc]at f;exact λρ3 G C e3 F r3=>⟨ρ3,S3,τ3,(e1.trans e2).trans e3,F,r3,yl.ext f<|e2.trans e3⟩
   | ct τ3 S3=>rw[hc]at f;exact λρ3 G C e3 F r3=>⟨ρ3,S3,τ3,(e1.trans e2).trans e3,F,r3,yl.ext f<|e2.trans e3⟩
   | bk τ3 S3=>rw[hc]at f;exact zL.ext f e2
   | rt a S3=>rw[hc]at f;exact tY.ext f e2
   | ex x S3=>rw[hc]at f;exact XE.ext f e2
   | no=>rw[hc]at f;exact f
end
structure Src where
 k:Nat
 get:Nat->iM->Option A
 fin:iM->Bool
structure JR (K:aq)(s:Src)(J:It)(ρ0:ba)(H0:Hp):Prop where
 go:∀(i:Nat) (S:iM) (H:Hp) (ρ:ba) (x:A),Ext0 ρ0 ρ H0 H->Rel K ρ H S->s.get i S=some x->J.go i H/\∀v H',J.yld i H v H'->Ext ρ ρ H H'/\Rel K ρ H' S/\AV K ρ H' x v
 stop:∀(S:iM) (H:Hp) (ρ:ba),Ext0 ρ0 ρ H0 H->Rel K ρ H S->s.fin S=true->J.stop s.k H
meta abbrev Ic:=ad->iM->R Src
abbrev tI (X:Cx)(c:Ic):TI:=λσ H Q=>∃ρ S τ,Rel X.K ρ H S/\SR X.K ρ H τ σ/\(c τ S).post (λs d=>∀ρ' H' J,Ext ρ ρ' H H'->Rel X.K ρ' H' d->JR X.K s J ρ' H'->Q J H') (XE X ρ H)
abbrev AI (X:Cx)(tg iter:aC)(c:Ic):Prop:=PI X tg iter<|tI X c
abbrev vL (xs:ad):Src:=⟨xs.length,λi _=>xs[i]?,λ_=>true⟩
abbrev jv (n k:Nat):Src:=⟨k,λi S=>(iG S n).bind (·[i]?),λS=>match iG S n with
 | some ys=>decide (ys.length<=k)
 | none=>false⟩
abbrev nH (lo hi:Int):Src:=⟨(hi-lo).toNat,λi _=>if i<(hi-lo).toNat then some (.int<|lo+i)else none,λ_=>true⟩
abbrev jF (c:Ex):Ic:=λτ S=>(c τ S).bind λa S1=>match a with
 | .tup xs=>.ok (vL xs) S1
 | .frz xs=>.ok (vL xs) S1
 | .ref n=>opt (iG S1 n) λxs=>.ok (jv n xs.length) S1
 | .str x=>gd (x.cps.all (· < 128)=true) (.ok (vL<|x.cps.toList.map λc=>.str ⟨#[c]⟩) S1)
 | _=>.no
section
variable {X:Cx}{pos:Pos}{tg e a b:aC}
def Pj{K:aq}{H0:Hp}{p:aj}(h:m8 K H0 p vs)(r:AVs K ρ0 H0 xs vs):JR K (vL xs) (T5 K p) ρ0 H0 where
 go:=λi S H ρ x e R g=>by
  obtain⟨v,ev,d⟩:=(AVs.kQ e r).get g;have hs:=e.U4 h;refine⟨⟨vs,v,hs,ev⟩,λw H' ⟨e1,y⟩=>?_⟩;subst e1;have:=y vs hs;rw[ev]at this
  cases this
  exact⟨.refl,R,d⟩
 stop:=λS H ρ e R _=>⟨vs,e.U4 h,by rw[<- r.length];exact aL _⟩
def O7{K:aq}{H0:Hp}{p:aj}(h:Fz K H0 p vs)(r:AVs K ρ0 H0 xs vs):JR K (vL xs) (QU K p) ρ0 H0 where
 go:=λi S H ρ x e R g=>by
  obtain⟨v,ev,d⟩:=(AVs.kQ e r).get g;have hs:=(e.fz h).LR;refine⟨⟨vs,v,hs,ev⟩,λw H' ⟨e1,y⟩=>?_⟩;subst e1;have:=y vs hs;rw[ev]at this
  cases this
  exact⟨.refl,R,d⟩
 stop:=λS H ρ e R _=>⟨vs,(e.fz h).LR,by rw[<- r.length];exact aL _⟩
def JC{K:aq}{ρ0:ba}{H0:Hp}{p:aj}{n k:Nat}(h:ρ0[n]?=some p):JR K (jv n k) (QU K p) ρ0 H0 where
 go:=λi S H ρ x e R g=>by
  obtain⟨ys,hn,hx⟩:=bD.mp<|show(iG S n).bind (·[i]?)=some x from g;obtain⟨vs,h1,r⟩:=R.lst (e.get h)<|iW hn;obtain⟨v,ev,d⟩:=r.get hx;refine⟨⟨vs,v,kP.of h1,ev⟩,λw H' ⟨e1,y⟩=>?_⟩;subst e1;have:=y vs<|kP.of h1;rw[ev]at this
  cases this
  exact⟨.refl,R,d⟩
 stop:=λS H ρ e R g=>by
  have g:(match iG S n with
   | some ys=>decide (ys.length<=k)
   | none=>false)=true:=g
  cases hn:iG S n with
  | none=>rw[hn]at g;cases g
  | some ys=>
   rw[hn]at g;obtain⟨vs,h1,r⟩:=R.lst (e.get h)<|iW hn;exact⟨vs,kP.of h1,by rw[<- r.length];exact cS g⟩
def Ib{K:aq}{H0:Hp}{lo hi:Int}:JR K (nH lo hi) (RN lo (hi-lo).toNat) ρ0 H0 where
 go:=λi S H ρ x e R g=>by
  have g:(if i<(hi-lo).toNat then some (A.int<|lo+i)else none)=some x:=g;by_cases d:i<(hi-lo).toNat
  ·rw[bf d]at g
   cases g
   refine⟨d,λw H' ⟨e1,y⟩=>?_⟩;subst e1 y;exact⟨.refl,R,.int _⟩
  ·rw[bu d]at g;cases g
 stop:=λS H ρ e R _=>aL _
def Ov{K:aq}{H0:Hp}{x:Str}:JR K (vL<|x.cps.toList.map λc=>A.str ⟨#[c]⟩) (UD x) ρ0 H0 where
 go:=λi S H ρ y e R g=>by
  have g:(x.cps.toList.map λc=>A.str ⟨#[c]⟩)[i]?=some y:=g;rw[aQ]at g;obtain⟨c,hc,rfl⟩:=aV.mp g;rw[gi]at hc;refine⟨(Array.getElem?_eq_some_iff.mp hc).1,λw H' ⟨e1,j,d,f⟩=>?_⟩;rw[hc]at d
  cases d
  subst e1 f;exact⟨.refl,R,.str _⟩
 stop:=λS H ρ e R _=>by
  show(x.cps.toList.map λc=>A.str ⟨#[c]⟩).length=x.cps.size;rw[aH,dM]
def jS{c:Ex}(he:AE X e c):AI X tg e (jF c):=λpins s σ H Q I h9=>by
 room;have hb:=iT h
 cases hc:c τ S with
 | no=>rw[hc]at hb;exact hb.elim
 | ex x S1=>
  rw[hc]at hb;exact IG he pins s σ H Q I ⟨ρ,S,τ,R,r,by rw[hc];exact hb⟩
 | ok a S1=>
  rw[hc]at hb
  cases a with
  | tup xs=>
   refine IG he pins s σ H Q I ⟨ρ,S,τ,R,r,?_⟩;rw[hc];intro ρ1 H1 x e1 d f
   cases f with
   | tup h1 r1=>exact⟨_,rfl,⟨_,(m8.of h1)⟩,hb ρ1 H1 _ e1 d<|Pj (m8.of h1) r1⟩
  | frz xs=>
   refine EO he pins s σ H Q I ⟨ρ,S,τ,R,r,?_⟩;rw[hc];intro ρ1 H1 x e1 d f
   cases f with
   | frz h1 r1=>exact⟨_,rfl,⟨_,h1.LR⟩,hb ρ1 H1 _ e1 d<|O7 h1 r1⟩
  | ref n=>
   obtain⟨xs,hn,hb⟩:=iV hb;refine EO he pins s σ H Q I ⟨ρ,S,τ,R,r,?_⟩;rw[hc];intro ρ1 H1 x e1 d f
   cases f with
   | ref hp=>
    obtain⟨vs,h1,r1⟩:=d.lst hp<|iW hn;exact⟨_,rfl,⟨_,kP.of h1⟩,hb ρ1 H1 _ e1 d<|JC hp⟩
  | str x=>
   obtain⟨g,hb⟩:=jd hb;refine Pp he pins s σ H Q I ⟨ρ,S,τ,R,r,?_⟩;rw[hc];intro ρ1 H1 v e1 d f
   cases f with
   | str=>exact⟨x,rfl,g,hb ρ1 H1 _ e1 d Ov⟩
  | _=>exact hb.elim
abbrev bnd (i:Int):Prop:=-(2 ^ 62)<=i/\i<2 ^ 62
instance (i:Int):Decidable (bnd i):=by unfold bnd;infer_instance
abbrev mY (c:Ex):Ic:=λτ S=>(c τ S).bind λa S1=>match a with
 | .int j=>gd (bnd j) (.ok (nH 0 j) S1)
 | _=>.no
abbrev vQ (c d:Ex):Ic:=λτ S=>(c τ S).bind λa S1=>(d τ S1).bind λb S2=>match a,b with
 | .int i,.int j=>gd (bnd i/\bnd j) (.ok (nH i j) S2)
 | _,_=>.no
def lU{p:Pos}{c:Ex}(hm:X.mg "range" = none)(ha:AE X a c)(hg:Gl X "range" := by rfl)(hs:starEach [a] X.env=[(false,eval a X.env)]:=by rfl):AI X tg (.Call (.Name "range" p) [a] [] pos) (mY c):=λpins s σ H Q I h9=>by
 room;refine G3 hg hm (lB ha rE hs) hs pins s σ H Q I ⟨ρ,S,τ,R,r,iN (iT h) .refl λx S1 h1 ρ1 H1 v e1 f d=>?_⟩
 cases d with
 | int j=>
  obtain⟨hb,h1⟩:=jd h1;exact⟨_,rfl,hb.1,hb.2,by have:=h1 ρ1 H1 _ e1 f Ib;rwa [Int.sub_zero]at this⟩
 | _=>exact h1.elim
def zD{p:Pos}{c d:Ex}(hm:X.mg "range" = none)(ha:AE X a c)(hb:AE X b d)(hg:Gl X "range" := by rfl)(hs:starEach [a,b] X.env=[(false,eval a X.env),(false,eval b X.env)]:=by rfl)(hs2:starEach [b] X.env=[(false,eval b X.env)]:=by rfl):AI X tg (.Call (.Name "range" p) [a,b] [] pos) (vQ c d):=λpins s σ H Q I h9=>by
 room;refine GB hg hm (lB ha (lB hb rE hs2)<|by rw[hs,hs2]) hs hs2 pins s σ H Q I ⟨ρ,S,τ,R,r,iN (iT h) .refl λx S1 h1 ρ1 H1 v e1 q k=>⟨ρ1,S1,τ,q,r.ext e1,iN (iT h1) e1 λy S2 f g H2 w e2 R2 m=>?_⟩⟩
 cases k with
 | int i=>
  cases m with
  | int j=>
   obtain⟨hb,f⟩:=jd f;exact⟨_,_,rfl,⟨hb.1.1,hb.1.2,hb.2.1,hb.2.2⟩,f g H2 _ (e1.trans e2) R2 Ib⟩
  | _=>exact f.elim
 | _=>exact f.elim
abbrev o8 (s:Src)(g:Tg)(c:Sm):Nat->Nat->Sm
 | 0,_=>λτ S=>if s.fin S then .nx τ S else .no
 | k+1,i=>λτ S=>match s.get i S with
  | none=>.no
  | some x=>.of (g x τ S) λj S1=>match c j S1 with
   | .nx d f=>o8 s g c k (i+1) d f
   | .ct d f=>o8 s g c k (i+1) d f
   | .bk d f=>.nx d f
   | r=>r
abbrev sF (src:Ic)(g:Tg)(c:Sm):Sm:=λτ S=>.of (src τ S) λs S1=>o8 s g c s.k 0 τ S1
def qw{iter:aC}{src:Ic}{g:Tg}{c:Sm}(hp:PassesOwn (model X.prog X.w) X.A X.env X.xe)(hc:X.calm=true)(hi:AI X tg iter src)(hg:AG X tg g)(hb:Hf X body c)
  (hs:∀x,foldedSetIterable iter X.env x=pure x:=by intro _;rfl):AS X (.For tg iter body [] pos) (sF src g c):=PS.imp (Qh hp hc hi hg hb hs) λD σ H h9=>by
 room;refine⟨ρ,S,τ,R,r,iN (of_post h) .refl λs S1 h1 ρ1 H1 J e1 R1 V=>?_⟩;refine⟨λi m F H'=>m+i=s.k/\∃ρ' C d,Ext ρ1 ρ' H1 H'/\Rel X.K ρ' H' C/\SR X.K ρ' H' d F/\yl X ρ' H' D (o8 s g c m i d C),⟨s.k,rfl,ρ1,S1,τ,.refl,R1,r.ext e1,yl.ext h1 e1⟩,?_⟩;rintro i m N H2 ⟨hm,q,S2,L,e2,R2,r2,t⟩
 cases m with
 | zero=>
  left;have t:yl X q H2 D (if s.fin S2 then .nx L S2 else .no):=t
  cases hf:s.fin S2 with
  | false=>rw[hf]at t;exact t.elim
  | true=>
   rw[hf]at t;refine⟨by rw[show i=s.k by lia];exact V.stop S2 H2 q e2.toExt0 R2 hf,t q H2 N .refl R2 r2⟩
 | succ m=>
  right;have t:yl X q H2 D (match s.get i S2 with
   | none=>.no
   | some x=>.of (g x L S2) λP S1=>match c P S1 with
    | .nx d C=>o8 s g c m (i+1) d C
    | .ct d C=>o8 s g c m (i+1) d C
    | .bk d C=>.nx d C
    | r=>r):=t
  cases hx:s.get i S2 with
  | none=>rw[hx]at t;exact t.elim
  | some x=>
   rw[hx]at t;obtain⟨O,hy⟩:=V.go i S2 H2 q x e2.toExt0 R2 hx;refine⟨O,λF H'=>m+(i+1)=s.k/\∃ρ' C d,Ext ρ1 ρ' H1 H'/\Rel X.K ρ' H' C/\SR X.K ρ' H' d F/\yl X ρ' H' D (o8 s g c m (i+1) d C),λF H' z=>⟨m,bG _,z⟩,λv H3 y=>?_⟩;obtain⟨e3,Z,W⟩:=hy v H3 y;refine⟨q,S2,L,x,Z,r2.ext e3,W,iN (of_post t) e3 λτ4 S4 B U H4 σ4 e4 R4 r4=>⟨U,S4,τ4,R4,r4,?_⟩⟩;have f:=e3.trans e4
   cases j:c τ4 S4 with
   | nx G S5=>rw[j]at B;exact λρ5 H5 σ5 e5 R5 r5=>⟨(),ρ5,S5,G,(e2.trans f).trans e5,R5,r5,yl.ext B<|f.trans e5⟩
   | ct G S5=>rw[j]at B;exact λρ5 H5 σ5 e5 R5 r5=>⟨(),ρ5,S5,G,(e2.trans f).trans e5,R5,r5,yl.ext B<|f.trans e5⟩
   | bk G S5=>rw[j]at B;exact zL.ext B f
   | rt Y S5=>rw[j]at B;exact tY.ext B f
   | ex Y S5=>rw[j]at B;exact XE.ext B f
   | no=>rw[j]at B;exact B
end
section
variable {X:Cx}{tg a b c0:aC}{pos:Pos}
abbrev y_ (lo hi:Int):Src:=⟨(lo-hi).toNat,λi _=>if i<(lo-hi).toNat then some (.int<|lo-i)else none,λ_=>true⟩
def Rr{K:aq}{H0:Hp}{lo hi:Int}:JR K (y_ lo hi) (SK lo (lo-hi).toNat) ρ0 H0 where
 go:=λi S H ρ x e R g=>by
  have g:(if i<(lo-hi).toNat then some (A.int<|lo-i)else none)=some x:=g;by_cases d:i<(lo-hi).toNat
  ·rw[bf d]at g
   cases g
   refine⟨d,λw H' ⟨e1,y⟩=>?_⟩;subst e1 y;exact⟨.refl,R,.int _⟩
  ·rw[bu d]at g;cases g
 stop:=λS H ρ e R _=>aL _
abbrev T9 (a b k:A)(S3:iM):R Src:=match a,b,k with
 | .int i,.int j,.int m=>gd (m=-1/\bnd i/\bnd j) (.ok (y_ i j) S3)
 | _,_,_=>.no
def Lo{a b k:A}{P:Src->iM->Prop}{E:Str->iM->Prop}(h:(T9 a b k S3).post P E):∃i j,a=.int i/\b=.int j/\k=.int (-1)/\bnd i/\bnd j/\P (y_ i j) S3:=by
 unfold T9 at h;split at h
 ·obtain⟨⟨z,h1,d⟩,h⟩:=jd h;exact⟨_,_,rfl,rfl,by rw[z],h1,d,h⟩
 ·exact h.elim
abbrev Ci (c d:Ex)(e:Ex):Ic:=λτ S=>(c τ S).bind λa S1=>(d τ S1).bind λb S2=>(e τ S2).bind λk S3=>T9 a b k S3
def Bj{c d e:Ex}{i j:Int}(h:c τ S=.ok (.int i) S1)(h':d τ S1=.ok (.int j) S2)(h'':e τ S2=.ok (.int<|-1) S3)(hb:bnd i)(hb':bnd j):Ci c d e τ S=.ok (y_ i j) S3:=by
 unfold Ci;rw[h];show(d τ S1).bind _=_;rw[h'];show(e τ S2).bind _=_;rw[h''];exact bf ⟨rfl,hb,hb'⟩
def yY{p:Pos}{c d e:Ex}(hm:X.mg "range" = none)(ha:AE X a c)(hb:AE X b d)(hc:AE X c0 e)(hg:Gl X "range" := by rfl)(hs:starEach [a,b,c0] X.env=[(false,eval a X.env),(false,eval b X.env),(false,eval c0 X.env)]:=by rfl)(hs2:starEach [b,c0] X.env=[(false,eval b X.env),(false,eval c0 X.env)]:=by rfl)(hs3:starEach [c0] X.env=[(false,eval c0 X.env)]:=by rfl) :
  AI X tg (.Call (.Name "range" p) [a,b,c0] [] pos) (Ci c d e):=λpins s σ H Q I h9=>by
 room;refine Nq hg hm (lB ha (lB hb (lB hc rE hs3)<|by rw[hs2,hs3])<|by rw[hs,hs2]) hs hs2 pins s σ H Q I ⟨ρ,S,τ,R,r,iN (iT h) .refl λx S1 h1 ρ1 H1 v e1 G m=>⟨ρ1,S1,τ,G,r.ext e1,iN (iT h1) e1 λy S2 J k H2 w e2 R2 F=>⟨k,S2,τ,R2,(r.ext e1).ext e2,iN (iT J) (e1.trans e2) λz S3 t ρ3 C u e3 B q=>?_⟩⟩⟩;obtain⟨i,j,hx,hy,L,f,g,K⟩:=Lo t;subst hx hy L
 cases m
 cases F
 cases q
 exact⟨_,_,rfl,⟨f.1,f.2,g.1,g.2⟩,K ρ3 C _ ((e1.trans e2).trans e3) B Rr⟩
end
abbrev R.jD {α β:Type}(r:R α)(f:α->iM->R β):R β:=match r with
 | .ok a S=>f a S
 | _=>.no
def jx{α β:Type}{r:R α}{f:α->iM->R β}{b:β}(h:r.jD f=.ok b S2):∃a S,r=.ok a S/\f a S=.ok b S2:=by
 cases r with
 | ok a S=>exact⟨a,S,rfl,h⟩
 | ex _ _=>cases h
 | no=>cases h
def tR{α β:Type}{r:R α}{f:α->iM->R β}{P:β->iM->Prop}{E:Str->iM->Prop}(h:(r.jD f).post P E):∃a S,r=.ok a S/\(f a S).post P E:=by
 cases r with
 | ok a S=>exact⟨a,S,rfl,h⟩
 | ex _ _=>exact h.elim
 | no=>exact h.elim
def vg{α β:Type}{o:Option β}{f:β->R α}{a:α}(h:opt o f=.ok a S):∃b,o=some b/\f b=.ok a S:=by
 cases o with
 | none=>cases h
 | some b=>exact⟨b,rfl,h⟩
abbrev kg (s:Src)(g:Tg)(t:Te)(e:Ex):Nat->Nat->ad->iM->R (ad)
 | 0,_=>λ_ S=>if s.fin S then .ok [] S else .no
 | k+1,i=>λτ S=>opt (s.get i S) λx=>(g x τ S).jD λd S1=>(t d S1).jD λb S2=>match b with
  | true=>(e d S2).jD λy S3=>(kg s g t e k (i+1) d S3).jD λys S4=>.ok (y::ys) S4
  | false=>kg s g t e k (i+1) d S2
abbrev nL (cap:List<|bo)(τ:ad):ad:=cap.map λo=>match o with
 | some j=>τ.getD j .unb
 | none=>.unb
abbrev jb (cap:List<|bo)(src:Ic)(g:Tg)(t:Te)(e:Ex):Ex:=λτ S=>(src τ S).bind λs S1=>(kg s g t e s.k 0 (nL cap τ) S1).jD λys S2=>newL ys S2
abbrev jt:Te:=λ_ S=>.ok true S
def A6{s:Src}{g:Tg}{t:Te}{e:Ex}{k:Nat}{T:Prop}(h:kg s g t e (k+1) i τ S=.ok zs S')
  (q:∀x τ1 S1 b S2,s.get i S=some x->g x τ S=.ok τ1 S1->t τ1 S1=.ok b S2->(b=true->∃y S3 ws,e τ1 S2=.ok y S3/\kg s g t e k (i+1) τ1 S3=.ok ws S'/\zs=y::ws)->(b=false->kg s g t e k (i+1) τ1 S2=.ok zs S')->T):T:=by
 obtain⟨x,hx,h⟩:=vg h;obtain⟨τ1,S1,h1,h⟩:=jx h;obtain⟨b,S2,d,h⟩:=jx h;refine q x τ1 S1 b S2 hx h1 d (λhb=>?_) λhb=>?_
 ·subst hb;obtain⟨y,S3,j,h⟩:=jx h;obtain⟨ws,S4,f,h⟩:=jx h
  cases h
  exact⟨y,S3,ws,j,f,rfl⟩
 ·subst hb;exact h
structure Out (ρ1:ba)(H1:Hp)(D:aj)(accV:List V)(ρ:ba)(H:Hp):Prop where
 e0:Ext0 ρ1 ρ H1 H
 fr:∀a u,a≠D->H1 a=some u->a∉ρ1->H a=some u
 nw:∀a∈ρ,a∈ρ1\/H1 a=none
 nD:D∉ρ
 hD:H D=some (.lst accV)
def Out.stay{H1 H3 H7:Hp}(o:Out ρ1 H1 D accV ρ3 H3)(hD1:H1 D=none)(e7:Ext ρ3 ρ7 H3 H7):Out ρ1 H1 D accV ρ7 H7:=by
 refine⟨⟨o.e0.pre.trans e7.pre,λa u i h=>e7.im a u i<|o.e0.im a u i h⟩,λa u na f g=>e7.fr a u (o.fr a u na f g) λz=>(o.nw a z).elim g λz=>by(rw[z]at f;cases f),λa j=>?_,λz=>(e7.nw D z).elim o.nD λz=>by(rw[o.hD]at z;cases z),e7.fr D _ o.hD o.nD⟩;by_cases d:a∈ρ1
 ·exact .inl d
 ·right
  cases q:H1 a with
  | none=>rfl
  | some u=>
   have k:a≠D:=iZ q hD1
   rcases e7.nw a j with z|z
   ·exact((o.nw a z).elim d λz=>by(rw[z]at q;cases q)).elim
   ·rw[o.fr a u k q d]at z;cases z
def Out.put{H1 H:Hp}(o:Out ρ1 H1 D accV ρ H)(ex:Ext0 ρ ρ H<|upd H D<|.lst vs):Out ρ1 H1 D vs ρ (upd H D<|.lst vs):=
 ⟨⟨o.e0.pre,λa u i h=>ex.im a u i<|o.e0.im a u i h⟩,λa u na f d=>by rw[iS na];exact o.fr a u na f d,o.nw,o.nD,jy⟩
def Out.end{H1 H:Hp}{D:aj}(o:Out ρ1 H1 D accV ρ H)(hD:H1 D=none):Ext ρ1 (ρ++[D]) H1 H:=by
 refine⟨⟨o.e0.pre.trans<|fN _ _,o.e0.im⟩,λa u d na=>o.fr a u (iZ d hD) d na,λa f=>?_⟩
 rcases bT.mp f with z|z
 ·exact o.nw a z
 ·have:a=D:=by simpa using z
  rw[this];exact .inr hD
abbrev Cq (K:aq)(ρ1:ba)(H1:Hp)(D:aj)(ys:ad)(k:Nat)(E:ba->Hp->Prop)(P:Nat->Nat->ad->iM->ad->Prop)(i m:Nat)(σ:L2.St)(H:Hp):Prop:=
 m+i=k/\∃ρ S τ acc zs accV,Out ρ1 H1 D accV ρ H/\E ρ H/\Rel K ρ H S/\SR K ρ H τ σ/\AVs K ρ H acc accV/\P m i τ S zs/\acc++zs=ys
section
variable {K:aq}{ρ1 ρ:ba}{H1 H:Hp}{D:aj}{ys acc zs:ad}{accV:List V}{k i m:Nat}{E:ba->Hp->Prop}{P:Nat->Nat->ad->iM->ad->Prop}{σ:L2.St}{S:iM}{τ:ad}
def Cq.el{T:Prop}(h:Cq K ρ1 H1 D ys k E P i m σ H)(q:∀ρ S τ acc zs accV,m+i=k->Out ρ1 H1 D accV ρ H->E ρ H->Rel K ρ H S->SR K ρ H τ σ->AVs K ρ H acc accV->P m i τ S zs->acc++zs=ys->T):T:=by
 obtain⟨hm,ρ,S,τ,acc,zs,accV,h1,f,t,g,j,h6,d⟩:=h;exact q ρ S τ acc zs accV hm h1 f t g j h6 d
def Cq.of(hm:m+i=k)(o:Out ρ1 H1 D accV ρ H)(e:E ρ H)(R:Rel K ρ H S)(r:SR K ρ H τ σ)(v:AVs K ρ H acc accV)(p:P m i τ S zs)(q:acc++zs=ys):Cq K ρ1 H1 D ys k E P i m σ H:=⟨hm,ρ,S,τ,acc,zs,accV,o,e,R,r,v,p,q⟩
end
abbrev LU (K:aq)(c:Ex):TE:=λσ H Q=>∃ρ S τ a d,Rel K ρ H S/\SR K ρ H τ σ/\c τ S=.ok a d/\∀ρ' H' v,Ext ρ ρ' H H'->Rel K ρ' H' d->AV K ρ' H' a v->Q v H'
abbrev Hi (K:aq)(c:Te):TT:=λσ H Q=>∃ρ S τ a d,Rel K ρ H S/\SR K ρ H τ σ/\c τ S=.ok a d/\∀ρ' H',Ext ρ ρ' H H'->Rel K ρ' H' d->Q a H'
abbrev Kw (K:aq)(g:Tg):TG:=λv σ H Q=>∃ρ S τ a d j,Rel K ρ H S/\SR K ρ H τ σ/\AV K ρ H a v/\g a τ S=.ok d j/\∀ρ' H' f,Ext ρ ρ' H H'->Rel K ρ' H' j->SR K ρ' H' d f->Q f H'
section
variable {X:Cx}{pos:Pos}{tg iter elt e:aC}{ifs:List aC}{scope:Scope}{N:am}{cap:List (bo)}{src:Ic}{g:Tg}{t:Te}{c:Ex}
def AE.e0{K:aq}(hK:X.K=K)(h:AE X e c):PE X e (LU K c):=PE.imp h λσ H Q ⟨ρ,S,τ,a,g,R,r,hc,q⟩=>⟨ρ,S,τ,by rw[hK];exact R,by rw[hK];exact r,by rw[hc];exact λρ' H' v e f d=>q ρ' H' v e (by rw[<- hK];exact f)<|by rw[<- hK];exact d⟩
def AT.t0{K:aq}(hK:X.K=K)(h:AT X e t):PT X e (Hi K t):=PT.imp h λσ H Q ⟨ρ,S,τ,a,f,R,r,hc,q⟩=>⟨ρ,S,τ,by rw[hK];exact R,by rw[hK];exact r,by rw[hc];exact λρ' H' e d=>q ρ' H' e<|by rw[<- hK];exact d⟩
def AG.g0{K:aq}(hK:X.K=K)(h:AG X e g):PG X e (Kw K g):=by
 subst hK;refine PG.imp h λv σ H Q h9=>?_;obtain⟨ρ,S,τ,a,d,f,R,r,va,hc,q⟩:=h9;exact⟨ρ,S,τ,a,R,r,va,by rw[hc];exact q⟩
abbrev Mw (X:Cx)(ifs:List aC)(t:Te):Prop:=CQ X ifs<|Hi X.K t
def jo:Mw X [] jt:=λpins s σ H Q I ⟨ρ,S,τ,a,d,R,r,hc,q⟩=>MO pins s σ H Q I<|by cases hc;exact q ρ H .refl R
def D_(h:AT X e t):Mw X [e] t:=MX<|h.t0 rfl
def K4{K:aq}{H:Hp}(r:SR K ρ H τ σ)(cap:List<|bo):SR K ρ H (nL cap τ) (cap.map<|LL σ):=by
 refine⟨by simp[nL],λi a h=>?_⟩;unfold nL at h;rw[aQ]at h;obtain⟨o,g,e⟩:=aV.mp h
 cases o with
 | none=>exact .inl e.symm
 | some j=>
  have e:τ.getD j .unb=a:=e
  cases d:τ[j]? with
  | none=>rw[aG,d]at e;exact .inl e.symm
  | some b=>
   rw[aG,d]at e;have e:b=a:=e;subst e
   rcases r.at j b d with z|⟨v,h1,f⟩
   ·exact .inl z
   ·exact .inr ⟨v,by rw[aQ,g];show some ((σ[j]?).getD none)=_;rw[h1];rfl,f⟩
def Rel.JW{K:aq}{H:Hp}{p:aj}(R:Rel K ρ H S)(hp:H p=none):p∉ρ:=λhm=>by
 obtain⟨n,hn,e⟩:=ff.mp hm;have f:n<S.length:=by rw[<- R.len];exact hn
 have:=R.at n p S[n] (by rw[aF hn,e]) (aF f)
 cases d:S[n]with
 | lst xs=>rw[d]at this;obtain⟨vs,h,_⟩:=this;rw[hp]at h;cases h
 | dct _|pW _|dcp _=>rw[d]at this;obtain⟨vs,h,_⟩:=this;rw[hp]at h;cases h
 | ins _ _=>rw[d]at this;obtain⟨_,_,h⟩:=this;rw[hp]at h;cases h
def xW(σ:L2.St)(H:Hp)(Q:VK)(h:tE X (jb cap src g t c) σ H Q):Q4 cap (tI X src) (Kw X.K g) (Hi X.K t) (LU X.K c) σ H Q:=by
 obtain⟨ρ,S,τ,R,r,h⟩:=h;refine⟨ρ,S,τ,R,r,iN (iT h) .refl λs S1 h1 ρ1 H1 J e1 R1 Y D hD=>?_⟩;obtain⟨ys,S2,U,h1⟩:=tR h1;obtain⟨C,h1⟩:=jd h1;have h1:tY X ρ H Q (.ref S2.length) (S2++[.lst ys]):=h1;obtain⟨W,RD⟩:=R1.im (u:=.lst []) hD;refine⟨Cq X.K ρ1 H1 D ys s.k (λ_ _=>True) λm i τ S zs=>kg s g t c m i τ S=.ok zs S2,⟨s.k,.of rfl ⟨W.toExt0,λa u na hu _=>by rw[iS na];exact hu,λa ha=>.inl ha,R1.JW hD,jy⟩ trivial RD (K4 ((r.ext e1).ext W) cap) .nil U rfl⟩,?_⟩;intro i m σ3 N hw;refine hw.el λρ3 S3 τ3 acc zs accV hm z _ L r3 q d f=>?_;clear hw
 cases m with
 | zero=>
  left;have d:(if s.fin S3 then Am.R.ok [] S3 else .no)=.ok zs S2:=d
  cases hf:s.fin S3 with
  | false=>rw[hf]at d;cases d
  | true=>
   rw[hf]at d
   cases d
   rw[bM]at f;subst f;refine⟨by rw[show i=s.k by lia];exact Y.stop _ N ρ3 z.e0 L hf,?_⟩;obtain⟨RT,gt⟩:=L.take z.hD z.nD q;exact h1 (ρ3++[D]) N _ (e1.trans<|z.end hD) RT<|.ref gt
 | succ m=>
  right;refine A6 d λx τ4 S4 b S5 hx hg4 ht5 hT hF=>?_;have Z:=Y.go i S3 N ρ3 x z.e0 L hx;refine⟨Z.1,λv H4 y=>?_⟩;obtain⟨e4,R4,v4⟩:=Z.2 v H4 y;kcj_m;have j:=(e4.trans e5).trans e6
  cases b with
  | false=>
   dsimp only;rw[bu bz];exact⟨m,bG _,.of () (z.stay hD j) trivial R6 (r5.ext e6) (q.ext j) (hF rfl) f⟩
  | true=>
   dsimp only;rw[bf rfl];obtain⟨y,S6,ws,P,O,F⟩:=hT rfl;refine⟨ρ6,S5,τ4,y,S6,R6,r5.ext e6,P,λρ7 H7 w V R7 v7=>?_⟩;have G:=z.stay hD<|j.trans V;obtain⟨B,R8⟩:=R7.out (ws:=accV++[w]) G.hD G.nD;have l1:=q.length;refine⟨accV,G.hD,?_,m,bG _,.of () (G.put B) trivial R8 ((r5.ext<|e6.trans V).kQ B) (AVs.kQ B<|(q.ext<|j.trans V).append<|.one v7) O ?_⟩
   ·have:(acc++zs).length<=sizeLine:=by rw[f];exact C
    rw[F,aO,bB]at this
    lia
   ·rw[bZ,<- f,F];rfl
def j4(hc:X.calm=true)(Sc:CpScope X scope N cap)(hi:AI X tg iter src)(hg:∀C s₀ H₀ ex,AG (jk X scope N C s₀ H₀ ex) tg g)(ht:∀C s₀ H₀ ex,Mw (jk X scope N C s₀ H₀ ex) ifs t)(he:∀C s₀ H₀ ex,AE (jk X scope N C s₀ H₀ ex) elt c)
  (hs:∀x,foldedSetIterable iter X.env x=pure x:=by intro _;rfl):AE X (.ListComp elt [⟨tg,iter,ifs,0⟩] scope pos) (jb cap src g t c):=
 PE.imp (QK hc Sc hi (g:=Kw X.K g) (tc:=Hi X.K t) (te:=LU X.K c) (λC s₀ H₀ ex=>(hg C s₀ H₀ ex).g0 rfl) (λC s₀ H₀ ex=>ht C s₀ H₀ ex) (λC s₀ H₀ ex=>(he C s₀ H₀ ex).e0 rfl) hs) xW
def qz{i:Nat}{x:Str}{spos:Pos}(hN:X.N.Nodup)(hc:X.calm=true)(Sc:CpScope X scope N cap)(hi:AI X tg iter src)(hg:∀C s₀ H₀ ex,AG (jk X scope N C s₀ H₀ ex) tg g)(ht:∀C s₀ H₀ ex,Mw (jk X scope N C s₀ H₀ ex) ifs t)(he:∀C s₀ H₀ ex,AE (jk X scope N C s₀ H₀ ex) elt c)
  (hi':X.N[i]?=some x:=by rfl) (hx:Loc X.env.scope x:=by first|exact Or.inl rfl|exact Or.inr rfl)
  (hsw:swapsWith (.ListComp elt [⟨tg,iter,ifs,0⟩] scope pos) (some<|.Name x pos') spos.line X.env=pure true:=by rfl) (hf:X.fn x=true\/X.env.scope.names.lookup x=some .local:=by first|exact .inl rfl|exact .inr rfl|assumption)
  (hs:∀x,foldedSetIterable iter X.env x=pure x:=by intro _;rfl):AS X (.Assign [.Name x pos'] (.ListComp elt [⟨tg,iter,ifs,0⟩] scope pos) spos) (jn (jb cap src g t c)<|je i):=
 PS.imp (Hu hN hi' hx hc Sc hi (g:=Kw X.K g) (tc:=Hi X.K t) (te:=LU X.K c) (λC s₀ H₀ ex=>(hg C s₀ H₀ ex).g0 rfl) (λC s₀ H₀ ex=>ht C s₀ H₀ ex) (λC s₀ H₀ ex=>(he C s₀ H₀ ex).e0 rfl) hsw hf hs) λD σ H ⟨ρ,S,τ,R,r,h⟩=>
  xW σ H _ ⟨ρ,S,τ,R,r,iN (of_post h) .refl λa S1 h1 ρ1 H1 x e1 f d=>h1 ρ1 H1 _ e1 f<|(r.ext e1).set d⟩
end
abbrev A.lst? (S:iM):A->Option (ad)
 | .ref n=>iG S n
 | _=>none
abbrev Mx (f:A->ad->iM->R A)(co:Ex)(d:qJ):Ex:=λτ S=>(co τ S).bind λo S1=>opt (o.lst? S1) λ_=>(d τ S1).bind λg S2=>f o g S2
abbrev Qu (f:A->ad->iM->R A)(co:Ex):Ex:=λτ S=>(co τ S).bind λo S1=>opt (o.lst? S1) λ_=>f o [] S1
abbrev rM (X:Cx)(f:A->ad->iM->R A):V->List V->Hp->VK->Prop:=λx vs H Q=>∃ρ S o d,Rel X.K ρ H S/\AV X.K ρ H o x/\AVs X.K ρ H d vs/\(f o d S).post (tY X ρ H Q) (XE X ρ H)
section
variable {X:Cx}{apos cpos:Pos}{o e:aC}{es:List aC}{name:Str}{id:String}{f:A->ad->iM->R A}{co:Ex}{d:qJ}
def lst?_ty{K:aq}{H:Hp}{x:A}{v:V}(R:Rel K ρ H S)(h:AV K ρ H x v)(e:x.lst? S=some xs):SE K "list" v H:=by
 cases h with
 | ref h=>
  obtain⟨vs,h1,_⟩:=R.lst h<|iW e;exact .inl ⟨rfl,vs,kP.of h1⟩
 | _=>cases e
def x_(slot:Slot "list" name id)(hty:typeOf (.builtin id)=pure (.type "method_descriptor"))(hm:NU X id<|rM X f)(ho:AE X o co)(ha:AL X (e::es) d)
  (hbase:attributeBase o name X.env (eval o X.env)=eval o X.env:=by rfl)
  (hfew:((backTo cpos<|starEach (e::es) X.env).all (λx=>!x.1) && (backToKw cpos<|keywordEach [] X.env).all (λx=>x.1.isSome)
   && decide ((e::es).length+([]:List Keyword).length+(if ([]:List Keyword).isEmpty then 0 else 1)<30))=true:=by rfl)
  (hline:(apos.endLine == cpos.line)=true:=by rfl) (hs:starEach (e::es) X.env=(false,eval e X.env)::starEach es X.env:=by rfl) (hplain:(backTo cpos<|starEach es X.env).any (·.1)=false:=by rfl) :
  AE X (.Call (.Attribute o name apos) (e::es) [] cpos) (Mx f co d):=PE.imp (RE PySem.F.plainAttrs_list slot hty hm ho ha hbase hfew hline hs hplain) λσ H Q h9=>by
 room;refine⟨ρ,S,τ,R,r,iN (iT h) .refl λx S1 h1 ρ1 H1 v e1 k j=>?_⟩;obtain⟨xs,hx,h1⟩:=iV h1;refine⟨lst?_ty k j hx,ρ1,S1,τ,k,r.ext e1,iN (iT h1) e1 λm S2 t g H2 vs e2 R2 q=>?_⟩;exact⟨g,S2,x,m,R2,j.ext e2,q,iN t (e1.trans e2) λ_ _ z=>z.ext<|e1.trans e2⟩
def O3(slot:Slot "list" name id)(hty:typeOf (.builtin id)=pure (.type "method_descriptor"))(hm:NU X id<|rM X f)(ho:AE X o co)
  (hbase:attributeBase o name X.env (eval o X.env)=eval o X.env:=by rfl) (hline:(apos.endLine == cpos.line)=true:=by rfl):AE X (.Call (.Attribute o name apos) [] [] cpos) (Qu f co):=PE.imp (Qz PySem.F.plainAttrs_list slot hty hm ho hbase hline) λσ H Q h9=>by
 room;refine⟨ρ,S,τ,R,r,iN (iT h) .refl λx S1 h1 ρ1 H1 v e1 g d=>?_⟩;obtain⟨xs,hx,h1⟩:=iV h1;exact⟨lst?_ty g d hx,ρ1,S1,x,[],g,d,.nil,iN h1 e1 λ_ _ z=>z.ext e1⟩
abbrev qy (o:A)(as:ad)(S:iM):R A:=match o,as with
 | .ref n,[x]=>opt (iG S n) λxs=>gd (xs.length<sizeLine) (.ok .jC<|S.set n<|.lst<|xs++[x])
 | _,_=>.no
def rm:NU X "list.append" (rM X qy):=λpins s σ H x vs v us Q I rx g h9=>by
 obtain⟨ρ,S,o,d,R,k,va,h⟩:=h9
 cases k with
 | @ref p n hp=>
  match d,va,h with
  | [],_,h=>exact h.elim
  | _::_::_,_,h=>exact h.elim
  | [y],va,h=>
   obtain⟨w,rfl,hw⟩:=MJ va;gn_on;obtain⟨f,h⟩:=jd h;obtain⟨m,h1,r⟩:=R.lst hp<|iW hn;obtain⟨ex,j⟩:=R.put hp (iW hn)<|r.append<|.one hw;exact u_ pins s σ H _ _ v us Q I rx g ⟨p,m,w,rfl,rfl,h1,by rw[<- r.length];exact f,h _ _ _ ex j .jC⟩
 | _=>exact h.elim
abbrev Pg (o:A)(as:ad)(S:iM):R A:=match o,as with
 | .ref n,[]=>opt (iG S n) λxs=>opt (xs[xs.length-1]?) λx=>.ok x (S.set n<|.lst xs.dropLast)
 | _,_=>.no
def AVs.dropLast{K:aq}{H:Hp}{xs:ad}{vs:List V}(r:AVs K ρ H xs vs):AVs K ρ H xs.dropLast vs.dropLast:=by
 rw[List.dropLast_eq_take,List.dropLast_eq_take,r.length];exact r.take _
def QX:NU X "list.pop" (rM X Pg):=λpins s σ H x vs v us Q I rx f h9=>by
 obtain⟨ρ,S,o,d,R,k,va,h⟩:=h9
 cases k with
 | @ref p n hp=>
  match d,va,h with
  | _::_,_,h=>exact h.elim
  | [],va,h=>
   cases va
   gn_on;obtain⟨y,hy,h⟩:=iV h;obtain⟨m,h1,r⟩:=R.lst hp<|iW hn;obtain⟨w,hw,j⟩:=r.get hy;obtain⟨ex,g⟩:=R.put hp (iW hn) r.dropLast;exact Pn pins s σ H _ _ v us Q I rx f ⟨p,m,w,rfl,rfl,h1,by rw[<- r.length];exact hw,h _ _ _ ex g<|j.ext ex⟩
 | _=>exact h.elim
abbrev Dk (o:A)(as:ad)(S:iM):R A:=match o,as with
 | .ref n,[.int i]=>opt (iG S n) λxs=>gd (-(2 ^ 63)<=i/\i<2 ^ 63) (opt (seqIndex? i xs.length) λk=>opt (xs[k]?) λx=>.ok x<|S.set n<|.lst<|xs.eraseIdx k)
 | _,_=>.no
def Nu:NU X "list.pop" (rM X Dk):=λpins s σ H x vs v us Q I rx g h9=>by
 obtain⟨ρ,S,o,f,R,q,va,h⟩:=h9
 cases q with
 | @ref p n hp=>
  match f,va,h with
  | [],_,h=>exact h.elim
  | y::_::_,_,h=>exact(by cases y<;>exact h.elim)
  | [y],va,h=>
   obtain⟨w,rfl,hw⟩:=MJ va
   cases hw with
   | int i=>
    gn_on;obtain⟨hi,h⟩:=jd h;obtain⟨k,d,h⟩:=iV h;obtain⟨y,hy,h⟩:=iV h;obtain⟨t,h1,r⟩:=R.lst hp<|iW hn;obtain⟨w,hw,m⟩:=r.get hy;obtain⟨ex,j⟩:=R.put hp (iW hn)<|r.eraseIdx k;exact Ld pins s σ H _ _ v us Q I rx g ⟨p,t,i,k,w,rfl,rfl,h1,hi.1,hi.2,by rw[<- r.length];exact d,hw,h _ _ _ ex j<|m.ext ex⟩
   | _=>exact h.elim
 | _=>exact h.elim
end
abbrev lq (N:am)(m:Sm)(as:ad)(S:iM):R A:=match m (as++List.replicate (N.length-as.length) .unb) S with
 | .rt a d=>.ok a d
 | .nx _ d=>.ok .jC d
 | .ex c d=>.ex c d
 | _=>.no
abbrev qR (K:aq)(n:Nat)(F:ad->iM->R A):Sp:=λvs H Q _=>vs.length=n/\∃ρ S f a d,Rel K ρ H S/\AVs K ρ H f vs/\F f S=.ok a d/\∀ρ' H' v,Ext ρ ρ' H H'->Rel K ρ' H' d->AV K ρ' H' a v->Q v H'
def AB{K:aq}{H:Hp}{as:ad}(r:AVs K ρ H as vs)(N:am):SR K ρ H (as++List.replicate (N.length-as.length) .unb) (L2.start N vs):=by
 have d:=r.length;refine⟨by unfold L2.start;simp[d],λi a h=>?_⟩;by_cases hi:i<as.length
 ·rw[aT hi]at h;obtain⟨v,hv,f⟩:=r.get h;exact .inr ⟨v,by unfold L2.start;rw[aT<|by simp;lia,aQ,hv];rfl,f⟩
 ·rw[c9 (),List.getElem?_replicate]at h;split at h
  ·exact .inl (aR h).symm
  ·cases h
section
variable {P:ah}{w:af}{K:aq}{mg:Str->be}{base:ak}
def wc{x:Str}{st:aE}{f:aj}{N ps:am}{k:Nat}{m:Sm}(F:Fun K x qual st f fd)(Sc:FnScope N ps<|iU st)
  (body:∀(cdv:aa) (A:au) (outer:List Env) (s:aA) (H:Hp) (E:XK),Room k (A.deeper<|envOfC qual (iU st) s.heap.objs.size f cdv)->Hf (uP qG P w K mg base N qual (iU st) f cdv A outer s H E).Q0 (lN st) m) :
  FnOk P w K mg base qG (k+1) f fd ps (qR K ps.length<|lq N m):=by
 refine F.ok Sc (λvs H Q E h=>h.1) λcdv B outer s H vs Q E j ⟨G,ρ,S,g,a,C,R,va,d,q⟩=>⟨_,body cdv B outer s H E j,ρ,S,_,R,AB va N,?_⟩;unfold lq at d
 cases hm:m (g++List.replicate (N.length-g.length) .unb) S with
 | rt b S2=>rw[hm]at d;cases d;exact q
 | nx τ S2=>rw[hm]at d;cases d;exact λρ' H' t e z _=>q ρ' H' _ e z .jC
 | bk τ S2=>rw[hm]at d;cases d
 | ct τ S2=>rw[hm]at d;cases d
 | ex c S2=>rw[hm]at d;cases d
 | no=>rw[hm]at d;cases d
end
meta abbrev qU (P:ah)(w:af)(K:aq)(mg:Str->be)(base:ak)(k:Nat)(x:Str)(ps:am)(F:ad->iM->R A):Prop:=Kn P w K mg base k x ps<|qR K ps.length F
abbrev eFn (F:ad->iM->R A)(d:qJ):Ex:=λτ S=>(d τ S).bind λf S1=>match F f S1 with
 | .ok a S2=>.ok a S2
 | _=>.no
section
variable {X:Cx}{pos p:Pos}{e:aC}{es:List aC}{x:Str}{ps:am}{k:Nat}{F:ad->iM->R A}{d:qJ}
def Ij(G:qU X.prog X.w X.K X.mg X.base k x ps F)(hr:Room k X.A)(ha:AL X (e::es) d)(hl:∀τ S as S',d τ S=.ok as S'->as.length=ps.length)(hg:Gl X x:=by rfl)(hdb:(x == ("__debug__" : Str))=false:=by decide)
  (hs:starEach (e::es) X.env=(false,eval e X.env)::starEach es X.env:=by rfl) (hplain:(backTo pos<|starEach es X.env).any (·.1)=false:=by rfl):AE X (.Call (.Name x p) (e::es) [] pos) (eFn F d):=
 PE.imp (RY G hr ha hg hdb hs hplain) λσ H Q h9=>by
  room;refine⟨ρ,S,τ,R,r,?_⟩;have hb:=iT h
  cases hd:d τ S with
  | no=>rw[hd]at hb;exact hb
  | ex c S1=>rw[hd]at hb;exact hb
  | ok as S1=>
   rw[hd]at hb;intro ρ1 H1 vs e1 m j;rw[bM];refine⟨by rw[<- j.length];exact hl τ S as S1 hd,ρ1,S1,as,?_⟩;have hb:Am.R.post (match F as S1 with
    | .ok a S2=>.ok a S2
    | _=>.no) (tY X ρ H Q) (XE X ρ H):=hb
   cases f:F as S1 with
   | ok a S2=>rw[f]at hb;exact⟨a,S2,m,j,rfl,λg H2 v e2=>hb g H2 v<|e1.trans e2⟩
   | ex c S2=>rw[f]at hb;exact hb.elim
   | no=>rw[f]at hb;exact hb.elim
def rZ:∀τ S as S',iJ τ S=.ok as S'->as.length=0:=λτ S as S' h=>by cases h;rfl
def kJ{c:Ex}{d:qJ}{n:Nat}(h:∀τ S as S',d τ S=.ok as S'->as.length=n):∀τ S as S',iD c d τ S=.ok as S'->as.length=n+1:=λτ S as S' e=>by
 unfold iD at e
 cases hc:c τ S with
 | ok a S1=>
  rw[hc]at e
  cases hd:d τ S1 with
  | ok bs S2=>
   have e:R.bind (d τ S1) (λas S2=>.ok (a::as) S2)=.ok as S':=e;rw[hd]at e;cases e;rw[bB,h τ S1 bs _ hd]
  | ex _ _=>
   have e:R.bind (d τ S1) (λas S2=>.ok (a::as) S2)=.ok as S':=e;rw[hd]at e;cases e
  | no=>
   have e:R.bind (d τ S1) (λas S2=>.ok (a::as) S2)=.ok as S':=e;rw[hd]at e;cases e
 | ex _ _=>rw[hc]at e;cases e
 | no=>rw[hc]at e;cases e
end
section
variable {X:Cx}{pos:Pos}{a b c:aC}
abbrev UW (f':A->A->iM->R A)(cc:Ex)(τ:ad)(b k:A)(S:iM):R A:=match k with
 | .bl true=>(cc τ S).bind λc S4=>f' b c S4
 | .bl false=>.ok (.bl false) S
 | _=>.no
abbrev LW (f f':A->A->iM->R A)(ca cb cc:Ex):Ex:=λτ S=>(ca τ S).bind λa S1=>(cb τ S1).bind λb S2=>(f a b S2).bind λk S3=>UW f' cc τ b k S3
def Pq{f f':A->A->iM->R A}{ca cb cc:Ex}{H:Hp}{Q:VK}(h:tE X (LW f f' ca cb cc) σ H Q):H_ (r2 X f) (r2 X f') (tE X ca) (tE X cb) (tE X cc) σ H Q:=by
 obtain⟨ρ,S,τ,R,r,h⟩:=h;refine⟨ρ,S,τ,R,r,iN (iT h) .refl λa S1 h1 ρ1 H1 x e1 K F=>⟨ρ1,S1,τ,K,r.ext e1,iN (iT h1) e1 λb S2 L m H2 y e2 R2 C=>?_⟩⟩;have g:=e1.trans e2;refine⟨m,S2,a,b,R2,F.ext e2,C,iN (iT L) g λk S3 j ρ3 J z e3 B G=>?_⟩;have d:=g.trans e3
 cases k with
 | bl k=>
  cases BV G
  refine⟨k,rfl,?_⟩
  cases k with
  | true=>
   rw[bf rfl];exact⟨ρ3,S3,τ,B,r.ext d,iN (iT j) d λc S4 N t O w e4 R4 v4=>⟨t,S4,b,c,R4,C.ext<|e3.trans e4,v4,iN N (d.trans e4) λ_ _ q=>q.ext<|d.trans e4⟩⟩
  | false=>
   rw[bu bz];exact j ρ3 J _ d B<|.bl false
 | _=>exact j.elim
def NI{f f':A->A->iM->R A}{ca cb cc:Ex}(ho:nO X (compareOp op)<|r2 X f)(ho':nO X (compareOp op')<|r2 X f')(ha:AE X a ca)(hb:AE X b cb)(hc:AE X c cc)(hm:lastMarks [op,op'] [b,c]=false:=by with_unfolding_all rfl) :
  AE X (.Compare a [op,op'] [b,c] pos) (LW f f' ca cb cc):=PE.imp (LD ho ho' ha hb hc hm) λ_ _ _ h=>Pq h
abbrev Su (S:iM)(x:A):ad->bj
 | []=>some false
 | z::zs=>(sM S 12 z x).bind λp=>(Su S x zs).map λq=>p || q
abbrev Uw (neg:Bool)(x y:A)(S:iM):R A:=opt (y.seq S) λys=>opt (Su S x ys) λb=>.ok (.bl<|if neg then !b else b) S
def EL{H:Hp}{x:A}{v:aa}(I:Inv X pins σ H s)(R:Rel X.K ρ H S)(hu:X.A.units+64<cLine)(hx:AV X.K ρ H x vx)(rx:RelV vx v) :
  ∀{ys:ad} {us:List V} {its:ar} {b:Bool},AVs X.K ρ H ys us->Vals us its->Su S x ys=some b->∃e:aa->Bool,(∀w∈its,SeqAt.EqAt X.A.in1 s w v<|e w)/\its.any e=b:=by
 intro ys
 induction ys with
 | nil=>
  intro us its b h1 t h
  cases h1
  cases t
  exact⟨λ_=>false,(λw hw=>by cases hw),aR h⟩
 | cons z zs j=>
  intro us its b h1 t h
  cases h1 with
  | cons F k=>
   rename_i u us
   cases t with
   | cons r rs=>
    rename_i f its
    classical
    obtain⟨p,hp,h⟩:=bD.mp h;obtain⟨q,C,h⟩:=aV.mp h;obtain⟨e,g,m⟩:=j k rs C;have h0:=(D4 I R 12 X.A.in1 z x u vx f v p (by rw[in1_units];omega) F hx r rx hp).2.1;subst h
    cases p with
    | true=>
     refine⟨λw=>if w=f then true else e w,λw hw=>?_,?_⟩
     ·by_cases d:w=f
      ·dsimp[d,fU];exact h0
      ·dsimp[d,eG]
       rcases bh.mp hw with z|z
       ·exact absurd z d
       ·exact g w z
     ·simp
    | false=>
     by_cases hm:f∈its
     ·refine⟨e,λw hw=>?_,?_⟩
      ·rcases bh.mp hw with z|z
       ·rw[z];exact g f hm
       ·exact g w z
      ·rw[eX,m,Bool.false_or]
       cases q with
       | true=>simp
       | false=>
        have:=List.any_eq_false.mp m f hm;simpa using this
     ·refine⟨λw=>if w=f then false else e w,λw hw=>?_,?_⟩
      ·by_cases d:w=f
       ·dsimp[d,fU];exact h0
       ·dsimp[d,eG]
        rcases bh.mp hw with z|z
        ·exact absurd z d
        ·exact g w z
      ·rw[eX,<- m];dsimp[fU,Bool.false_or];have:∀l:ar,(∀w∈l,w≠f)->l.any (λw=>if w=f then false else e w)=l.any e:=λl B=>by
        induction l with
        | nil=>rfl
        | cons c l j=>rw[eX,eX,j λw hw=>B w<|aN _ hw,bu<|B c<|a_ ..]
       exact this its λw hw z=>hm<|z ▸ hw
def Uh(hu:X.A.units+64<cLine):nO X (compareOp .In) (r2 X<|Uw false):=λpins s σ H x y v u Q I rx ry h9=>by
 k_ne;obtain⟨ys,hy,h⟩:=iV h;obtain⟨k,q,h⟩:=iV h;obtain⟨p,us,rfl,hs,r⟩:=Ks R vb hy
 cases ry
 rcases hs with hs|hs
 ·obtain⟨d,m,j,t⟩:=I.list hs;obtain⟨e,f,g⟩:=EL I R hu va rx r m q;refine SeqAt.in_listAt e j.isList (λw hw=>f w<|by simpa using hw) ⟨.bl _,H,I,rfl,?_⟩;rw[show d.toArray.any e=d.any e by simp,g];exact h _ _ _ .refl R (.bl _)
 ·obtain⟨d,m,j,t⟩:=I.tuple hs;obtain⟨e,f,g⟩:=EL I R hu va rx r m q;refine SeqAt.in_tupleAt e j (λw hw=>f w<|by simpa using hw) ⟨.bl _,H,I,rfl,?_⟩;rw[show d.toArray.any e=d.any e by simp,g];exact h _ _ _ .refl R<|.bl _
end
section
variable {X:Cx}
abbrev BB (x:A)(S:iM):R A:=match x with
 | .ref n=>opt (iG S n) λxs=>opt (A.ints xs) λns=>.ok (.int ns.sum) S
 | _=>.no
def HQ(hc:X.calm=true):jH X (.builtin "sum") (rN X<|f1 BB):=jH.imp (Gh hc) λvs H Q h0=>by
 kpf_c;clear h0
 cases hv with
 | @ref p n hp=>
  gn_on;obtain⟨ns,hb,h⟩:=iV h;obtain⟨vs,h1,r⟩:=R.lst hp<|iW hn;rw[E1 r hb]at h1;exact⟨p,ns,rfl,kP.of h1,h _ _ _ .refl R<|.int _⟩
 | _=>exact h.elim
end
section
variable {X:Cx}{pos:Pos}{a b:aC}
abbrev yV (n m k:Nat):Src:=⟨k,λi S=>(iG S n).bind λxs=>(iG S m).bind λys=>(xs[i]?).bind λx=>(ys[i]?).map λy=>.tup [x,y],λS=>match iG S n,iG S m with
 | some xs,some ys=>decide (xs.length<=k) || decide (ys.length<=k)
 | _,_=>false⟩
abbrev Ut (a b:A)(S:iM):R Src:=match a,b with
 | .ref n,.ref m=>opt (iG S n) λxs=>opt (iG S m) λys=>.ok (yV n m<|min xs.length ys.length) S
 | _,_=>.no
abbrev zF (c d:Ex):Ic:=λτ S=>(c τ S).bind λa S1=>(d τ S1).bind λb S2=>Ut a b S2
def OE{K:aq}{ρ0:ba}{H0:Hp}{p q:aj}{n m k:Nat}(hp:ρ0[n]?=some p)(hq:ρ0[m]?=some q):JR K (yV n m k) (TX K p q) ρ0 H0 where
 go:=λi S H ρ x e R g=>by
  obtain⟨xs,hn,g⟩:=bD.mp g;obtain⟨ys,hm,g⟩:=bD.mp g;obtain⟨L,hx,g⟩:=bD.mp g;obtain⟨N,hy,rfl⟩:=aV.mp g;obtain⟨vs,h1,r1⟩:=R.lst (e.get hp)<|iW hn;obtain⟨f,d,r2⟩:=R.lst (e.get hq)<|iW hm;obtain⟨v,ev,C⟩:=r1.get hx;obtain⟨w,t,F⟩:=r2.get hy;refine⟨⟨vs,f,v,w,kP.of h1,kP.of d,ev,t⟩,λu H' z=>?_⟩;obtain⟨T,B,rfl,G⟩:=z;have j:=G vs f v w (kP.of h1) (kP.of d) ev t;subst j;obtain⟨ex,J⟩:=R.im (u:=.tup [v,w]) B;exact⟨ex,J,.tup jy<|.cons (C.ext ex)<|.cons (F.ext ex) .nil⟩
 stop:=λS H ρ e R hf=>by
  have hf:(match iG S n,iG S m with
   | some xs,some ys=>decide (xs.length<=k) || decide (ys.length<=k)
   | _,_=>false)=true:=hf
  cases hn:iG S n with
  | none=>rw[hn]at hf;cases hf
  | some xs=>
   cases hm:iG S m with
   | none=>rw[hn,hm]at hf;cases hf
   | some ys=>
    rw[hn,hm]at hf;obtain⟨vs,h1,r1⟩:=R.lst (e.get hp)<|iW hn;obtain⟨f,d,r2⟩:=R.lst (e.get hq)<|iW hm;refine⟨vs,f,kP.of h1,kP.of d,?_⟩;rw[dW,dW,<- r1.length,<- r2.length];have hf:(decide (xs.length<=k) || decide (ys.length<=k))=true:=hf;rw[iA,d_,d_]at hf;exact hf
def Qg{p:Pos}{c d:Ex}(hm:X.mg "zip" = none)(ha:AE X a c)(hb:AE X b d)(hg:Gl X "zip" := by rfl)(hs:starEach [a,b] X.env=(false,eval a X.env)::starEach [b] X.env:=by rfl)(hs2:starEach [b] X.env=[(false,eval b X.env)]:=by rfl)(hpl:(backTo pos<|starEach [b] X.env).any (·.1)=false:=by rfl) :
  AI X (.Tuple elts x1 tpos) (.Call (.Name "zip" p) [a,b] [] pos) (zF c d):=λpins s σ H Q I h9=>by
 room;refine OC hg hm (lB ha (lB hb rE hs2) hs) hs hpl pins s σ H Q I ⟨ρ,S,τ,R,r,iN (iT h) .refl λx S1 h1 ρ1 H1 v e1 G z=>⟨ρ1,S1,τ,G,r.ext e1,iN (iT h1) e1 λy S2 f j H2 w e2 R2 F=>?_⟩⟩;have k:=z.ext e2
 cases k with
 | @ref p n hp=>
  cases F with
  | @ref q m t=>
   obtain⟨xs,hn,f⟩:=iV f;obtain⟨ys,g,f⟩:=iV f;obtain⟨vs,B,r1⟩:=R2.lst hp<|iW hn;obtain⟨C,g2,r2⟩:=R2.lst t<|iW g;exact⟨_,_,vs,C,rfl,kP.of B,kP.of g2,f j H2 _ (e1.trans e2) R2<|OE hp t⟩
  | _=>exact f.elim
 | _=>exact f.elim
def IC{c d:Ex}{n:Nat}{xs ys:ad}(h1:c τ S=.ok (.ref n) S1)(h2:d τ S1=.ok (.ref m) S2)(hn:iG S2 n=some xs)(hm:iG S2 m=some ys):zF c d τ S=.ok (yV n m<|min xs.length ys.length) S2:=by
 unfold zF;rw[h1];show(d τ S1).bind _=_;rw[h2];show opt (iG S2 n) _=_;rw[hn]
 skip
 rw[hm];rfl
end
section
variable {X:Cx}{pos:Pos}{a:aC}
abbrev v9 (n k:Nat):Src:=⟨k,λi S=>(iG S n).bind λxs=>(xs[i]?).map λx=>.tup [.int i,x],λS=>match iG S n with
 | some ys=>decide (ys.length=k)
 | none=>false⟩
abbrev VB (a:A)(S:iM):R Src:=match a with
 | .ref n=>opt (iG S n) λxs=>.ok (v9 n xs.length) S
 | _=>.no
abbrev Kz (c:Ex):Ic:=λτ S=>(c τ S).bind λa S1=>VB a S1
def PL{K:aq}{ρ0:ba}{H0:Hp}{p:aj}{n k:Nat}(hp:ρ0[n]?=some p):JR K (v9 n k) (Qn K p) ρ0 H0 where
 go:=λi S H ρ x e R g=>by
  obtain⟨xs,hn,g⟩:=bD.mp g;obtain⟨y,hy,rfl⟩:=aV.mp g;obtain⟨vs,h1,r1⟩:=R.lst (e.get hp)<|iW hn;obtain⟨v,ev,j⟩:=r1.get hy;refine⟨⟨vs,v,kP.of h1,ev⟩,λw H' q=>?_⟩;obtain⟨z,f,rfl,m⟩:=q;have d:=m vs v (kP.of h1) ev;subst d;obtain⟨ex,t⟩:=R.im (u:=.tup [.int i,v]) f;exact⟨ex,t,.tup jy<|.cons (.int _)<|.cons (j.ext ex) .nil⟩
 stop:=λS H ρ e R hf=>by
  have hf:(match iG S n with
   | some ys=>decide (ys.length=k)
   | none=>false)=true:=hf
  cases hn:iG S n with
  | none=>rw[hn]at hf;cases hf
  | some xs=>
   rw[hn]at hf;obtain⟨vs,h1,r1⟩:=R.lst (e.get hp)<|iW hn;exact⟨vs,kP.of h1,by rw[<- r1.length];exact cS hf⟩
def P6{p:Pos}{c:Ex}(hm:X.mg "enumerate" = none)(ha:AE X a c)(hg:Gl X "enumerate" := by rfl)(hs:starEach [a] X.env=[(false,eval a X.env)]:=by rfl):AI X (.Tuple elts x1 tpos) (.Call (.Name "enumerate" p) [a] [] pos) (Kz c):=λpins s σ H Q I h9=>by
 room;refine HP hg hm (lB ha rE hs) hs pins s σ H Q I ⟨ρ,S,τ,R,r,iN (iT h) .refl λx S1 h1 ρ1 H1 v e1 d f=>?_⟩
 cases f with
 | @ref p n hp=>
  obtain⟨xs,hn,h1⟩:=iV h1;obtain⟨vs,g,r1⟩:=d.lst hp<|iW hn;exact⟨_,vs,rfl,kP.of g,h1 ρ1 H1 _ e1 d<|PL hp⟩
 | _=>exact h1.elim
def Ng{c:Ex}{n:Nat}{xs:ad}(h:c τ S=.ok (.ref n) S1)(hn:iG S1 n=some xs):Kz c τ S=.ok (v9 n xs.length) S1:=by
 unfold Kz;rw[h];show opt (iG S1 n) _=_;rw[hn];rfl
end
abbrev nc (s:Src)(g:Tg)(t:Te)(e:Ex):Nat->Nat->ad->iM->R (ad×ad)
 | 0,_=>λτ S=>if s.fin S then .ok ([],τ) S else .no
 | k+1,i=>λτ S=>opt (s.get i S) λx=>(g x τ S).jD λd S1=>(t d S1).jD λb S2=>match b with
  | true=>(e d S2).jD λy S3=>(nc s g t e k (i+1) d S3).jD λp S4=>.ok (y::p.1,p.2) S4
  | false=>nc s g t e k (i+1) d S2
abbrev lO (s:Src)(g:Tg)(t:Te)(src2:Ic)(g2:Tg)(t2:Te)(e:Ex):Nat->Nat->ad->iM->R (ad)
 | 0,_=>λ_ S=>if s.fin S then .ok [] S else .no
 | k+1,i=>λτ S=>opt (s.get i S) λx=>(g x τ S).jD λd S1=>(t d S1).jD λb S2=>match b with
  | true=>(src2 d S2).jD λf S3=>(nc f g2 t2 e f.k 0 d S3).jD λp S4=>(lO s g t src2 g2 t2 e k (i+1) p.2 S4).jD λys S5=>.ok (p.1++ys) S5
  | false=>lO s g t src2 g2 t2 e k (i+1) d S2
abbrev z9 (cap:List<|bo)(src:Ic)(g:Tg)(t:Te)(src2:Ic)(g2:Tg)(t2:Te)(e:Ex):Ex:=λτ S=>(src τ S).bind λs S1=>(lO s g t src2 g2 t2 e s.k 0 (nL cap τ) S1).jD λys S2=>newL ys S2
def Bc{s:Src}{g:Tg}{t:Te}{e:Ex}{k:Nat}{T:Prop}(h:nc s g t e (k+1) i τ S=.ok (zs,τ') S')
  (q:∀x τ1 S1 b S2,s.get i S=some x->g x τ S=.ok τ1 S1->t τ1 S1=.ok b S2->(b=true->∃y S3 ws,e τ1 S2=.ok y S3/\nc s g t e k (i+1) τ1 S3=.ok (ws,τ') S'/\zs=y::ws)->(b=false->nc s g t e k (i+1) τ1 S2=.ok (zs,τ') S')->T):T:=by
 obtain⟨x,hx,h⟩:=vg h;obtain⟨τ1,S1,h1,h⟩:=jx h;obtain⟨b,S2,d,h⟩:=jx h;refine q x τ1 S1 b S2 hx h1 d (λhb=>?_) λhb=>?_
 ·subst hb;obtain⟨y,S3,m,h⟩:=jx h;obtain⟨⟨ws,j⟩,S4,f,h⟩:=jx h
  cases h
  exact⟨y,S3,ws,m,f,rfl⟩
 ·subst hb;exact h
def Ac{s:Src}{g:Tg}{t:Te}{src2:Ic}{g2:Tg}{t2:Te}{e:Ex}{k:Nat}{T:Prop}(h:lO s g t src2 g2 t2 e (k+1) i τ S=.ok zs S')
  (q:∀x τ1 S1 b S2,s.get i S=some x->g x τ S=.ok τ1 S1->t τ1 S1=.ok b S2->(b=true->∃s2 S3 ps τ2 S4 ws,src2 τ1 S2=.ok s2 S3/\nc s2 g2 t2 e s2.k 0 τ1 S3=.ok (ps,τ2) S4/\lO s g t src2 g2 t2 e k (i+1) τ2 S4=.ok ws S'/\zs=ps++ws)->(b=false->lO s g t src2 g2 t2 e k (i+1) τ1 S2=.ok zs S')->T):T:=by
 obtain⟨x,hx,h⟩:=vg h;obtain⟨τ1,S1,h1,h⟩:=jx h;obtain⟨b,S2,j,h⟩:=jx h;refine q x τ1 S1 b S2 hx h1 j (λhb=>?_) λhb=>?_
 ·subst hb;obtain⟨s2,S3,f,h⟩:=jx h;obtain⟨⟨ps,τ2⟩,S4,m,h⟩:=jx h;obtain⟨ws,S5,d,h⟩:=jx h
  cases h
  exact⟨s2,S3,ps,τ2,S4,ws,f,m,d,rfl⟩
 ·subst hb;exact h
abbrev SJ (K:aq)(c:Ic):TI:=λσ H Q=>∃ρ S τ s d,Rel K ρ H S/\SR K ρ H τ σ/\c τ S=.ok s d/\∀ρ' H' J,Ext ρ ρ' H H'->Rel K ρ' H' d->JR K s J ρ' H'->Q J H'
section
variable {X:Cx}{pos:Pos}{tg iter tg2 iter2 elt e:aC}{ifs ifs2:List aC}{scope:Scope}{N:am}{cap:List (bo)}{src src2:Ic}{g g2:Tg}{t t2:Te}{c:Ex}
def AI.i0{K:aq}(hK:X.K=K)(h:AI X tg e src):PI X tg e (SJ K src):=λpins s σ H Q I ⟨ρ,S,τ,a,g,R,r,hc,q⟩=>h pins s σ H Q I ⟨ρ,S,τ,by rw[hK];exact R,by rw[hK];exact r,by rw[hc];exact λρ' H' J e f d=>q ρ' H' J e (by rw[<- hK];exact f)<|by rw[<- hK];exact d⟩
def KZ(hc:X.calm=true)(Sc:CpScope X scope N cap)(hi:AI X tg iter src)(hg:∀C s₀ H₀ ex,AG (jk X scope N C s₀ H₀ ex) tg g)(ht:∀C s₀ H₀ ex,Mw (jk X scope N C s₀ H₀ ex) ifs t)(hi2:∀C s₀ H₀ ex,AI (jk X scope N C s₀ H₀ ex) tg2 iter2 src2)
  (hg2:∀C s₀ H₀ ex,AG (jk X scope N C s₀ H₀ ex) tg2 g2) (ht2:∀C s₀ H₀ ex,Mw (jk X scope N C s₀ H₀ ex) ifs2 t2) (he:∀C s₀ H₀ ex,AE (jk X scope N C s₀ H₀ ex) elt c)
  (hs:∀x,foldedSetIterable iter X.env x=pure x:=by intro _;rfl) (hs2:∀env x,foldedSetIterable iter2 env x=pure x:=by intro _ _;rfl):AE X (.ListComp elt [⟨tg,iter,ifs,0⟩,⟨tg2,iter2,ifs2,0⟩] scope pos) (z9 cap src g t src2 g2 t2 c):=by
 refine PE.imp (PJ hc Sc hi (g:=Kw X.K g) (tc:=Hi X.K t) (wi2:=SJ X.K src2) (g2:=Kw X.K g2) (tc2:=Hi X.K t2) (te:=LU X.K c) (λC s₀ H₀ ex=>(hg C s₀ H₀ ex).g0 rfl) (λC s₀ H₀ ex=>ht C s₀ H₀ ex) (λC s₀ H₀ ex=>(hi2 C s₀ H₀ ex).i0 rfl) (λC s₀ H₀ ex=>(hg2 C s₀ H₀ ex).g0 rfl) (λC s₀ H₀ ex=>ht2 C s₀ H₀ ex) (λC s₀ H₀ ex=>(he C s₀ H₀ ex).e0 rfl) hs hs2) λσ H Q h9=>?_;room;refine⟨ρ,S,τ,R,r,iN (iT h) .refl λs S1 h1 ρ1 H1 J e1 R1 jr D hD=>?_⟩;obtain⟨ys,S2,hcg,h1⟩:=tR h1;obtain⟨hlen,h1⟩:=jd h1;have h1:tY X ρ H Q (.ref S2.length) (S2++[.lst ys]):=h1;obtain⟨eD,RD⟩:=R1.im (u:=.lst []) hD;refine⟨Cq X.K ρ1 H1 D ys s.k (λ_ _=>True) λm i τ S zs=>lO s g t src2 g2 t2 c m i τ S=.ok zs S2,⟨s.k,.of rfl ⟨eD.toExt0,λa u na hu _=>by rw[iS na];exact hu,λa ha=>.inl ha,R1.JW hD,jy⟩ trivial RD (K4 ((r.ext e1).ext eD) cap) .nil hcg rfl⟩,?_⟩;intro i m σ3 H3 hw;refine hw.el λρ3 S3 τ3 acc zs accV hm o3 _ R3 r3 ac3 j L=>?_;clear hw
 cases m with
 | zero=>
  left;have j:(if s.fin S3 then Am.R.ok [] S3 else .no)=.ok zs S2:=j
  cases hf:s.fin S3 with
  | false=>rw[hf]at j;cases j
  | true=>
   rw[hf]at j
   cases j
   rw[bM]at L;subst L;refine⟨by rw[show i=s.k by lia];exact jr.stop _ H3 ρ3 o3.e0 R3 hf,?_⟩;obtain⟨RT,gt⟩:=R3.take o3.hD o3.nD ac3;exact h1 (ρ3++[D]) H3 _ (e1.trans<|o3.end hD) RT<|.ref gt
 | succ m=>
  right;refine Ac j λx τ4 S4 b S5 hx hg4 ht5 hT hF=>?_;have jg:=jr.go i S3 H3 ρ3 x o3.e0 R3 hx;refine⟨jg.1,λv H4 y=>?_⟩;obtain⟨e4,R4,v4⟩:=jg.2 v H4 y;kcj_m;have e36:=(e4.trans e5).trans e6
  cases b with
  | false=>
   dsimp only;rw[bu bz];exact⟨m,bG _,.of () (o3.stay hD e36) trivial R6 (r5.ext e6) (ac3.ext e36) (hF rfl) L⟩
  | true=>
   dsimp only;rw[bf rfl];obtain⟨s2,S6,ps,τ7,S7,ws,hs6,ci7,co7,ezs⟩:=hT rfl;refine⟨ρ6,S5,τ4,s2,S6,R6,r5.ext e6,hs6,λρ8 H8 J2 e8 R8 jr2=>?_⟩;have e38:=e36.trans e8;refine⟨Cq X.K ρ1 H1 D (acc++ps) s2.k (λρ' H'=>Ext0 ρ8 ρ' H8 H') λm i τ S qs=>nc s2 g2 t2 c m i τ S=.ok (qs,τ7) S7,⟨s2.k,.of rfl (o3.stay hD e38) ⟨dR _,λ_ _ _ h=>h⟩ R8 (r5.ext<|e6.trans e8) (ac3.ext e38) ci7 rfl⟩,?_⟩;intro i2 m2 σ9 H9 hw;refine hw.el λρ9 S9 τ9 acc9 qs z hm2 o9 W R9 r9 U f O=>?_;clear hw
   cases m2 with
   | zero=>
    left;have f:(if s2.fin S9 then Am.R.ok ([],τ9) S9 else .no)=.ok (qs,τ7) S7:=f
    cases hf:s2.fin S9 with
    | false=>rw[hf]at f;cases f
    | true=>
     rw[hf]at f
     cases f
     rw[bM]at O;subst O;exact⟨by rw[show i2=s2.k by lia];exact jr2.stop _ H9 ρ9 W R9 hf,m,bG _,.of () o9 trivial R9 r9 U co7<|by rw[bZ,<- ezs,L]⟩
   | succ m2=>
    right;refine Bc f λx9 B S10 b10 S11 hx9 hg10 ht11 hT9 hF9=>?_;have jg2:=jr2.go i2 S9 H9 ρ9 x9 W R9 hx9;refine⟨jg2.1,λv10 H10 y10=>?_⟩;obtain⟨e10,R10,v10'⟩:=jg2.2 v10 H10 y10;refine⟨ρ9,S9,τ9,x9,B,S10,R10,r9.ext e10,v10',hg10,λρ11 H11 σ11 e11 R11 Y=>⟨ρ11,S10,B,b10,S11,R11,Y,ht11,λZ H12 V R12=>?_⟩⟩;have d:=(e10.trans e11).trans V;have o12:=o9.stay hD d;have G:Ext0 ρ8 Z H8 H12:=⟨W.pre.trans d.pre,λa u i h=>d.im a u i<|W.im a u i h⟩
    cases b10 with
    | false=>
     dsimp only;rw[bu bz];exact⟨m2,bG _,.of () o12 G R12 (Y.ext V) (U.ext d) (hF9 rfl) O⟩
    | true=>
     dsimp only;rw[bf rfl];obtain⟨y,S13,us,he13,ci13,eus⟩:=hT9 rfl;refine⟨Z,S11,B,y,S13,R12,Y.ext V,he13,λρ14 H14 w F R14 v14=>?_⟩;have P:=o12.stay hD F;obtain⟨q,R15⟩:=R14.out (ws:=z++[w]) P.hD P.nD;have l1:=U.length;refine⟨z,P.hD,?_,m2,bG _,.of () (P.put q) ⟨G.pre.trans F.pre,λa u i h=>q.im a u i<|F.im a u i<|G.im a u i h⟩ R15 ((Y.ext<|V.trans F).kQ q) (AVs.kQ q<|(U.ext<|d.trans F).append<|.one v14) ci13 ?_⟩
     ·have:((acc++ps)++ws).length<=sizeLine:=by rw[bZ,<- ezs,L];exact hlen
      rw[<- O,eus,aO,aO,bB]at this
      lia
     ·rw[bZ,<- O,eus];rfl
end
abbrev QY (K:aq)(n:Nat)(F:ad->iM->R A):Sp:=λvs H Q E=>vs.length=n/\∃ρ S f,Rel K ρ H S/\AVs K ρ H f vs/\(F f S).post (λa d=>∀ρ' H' v,Ext ρ ρ' H H'->Rel K ρ' H' d->AV K ρ' H' a v->Q v H') (λc d=>∀C ρ' H',Cr K c C->Ext ρ ρ' H H'->Rel K ρ' H' d->E (.ref C) none H')
section
variable {P:ah}{w:af}{K:aq}{mg:Str->be}{base:ak}
def Fun.VE{x:Str}{st:aE}{f:aj}{N ps:am}{k:Nat}{sp:Sp}(F:Fun K x qual st f fd)(S:FnScope N ps<|iU st)(len:∀vs H Q E,sp vs H Q E->vs.length=ps.length)
  (hb:∀(cdv:aa) (A:au) (outer:List Env) (s:aA) (H:Hp) (vs:List V) (Q:VK) (E:XK),Room k (A.deeper<|envOfC qual (iU st) s.heap.objs.size f cdv)->sp vs H Q E->∃t,yo (uP (Hj P w) P w K mg base N qual (iU st) f cdv A outer s H E) (lN st) t/\t { nx:=λ_ H'=>Q .jC H',rt:=Q } (L2.start N vs) H):FnOk P w K mg base (Hj P w) (k+1) f fd ps sp:=by
 obtain⟨G,C,kV,m,J,B,cdv,ct,q,rfl,z,d⟩:=F.ex;exact Oo z d S len λA outer s H vs Q E j g=>hb cdv A outer s H vs Q E j g
def fnX{x:Str}{st:aE}{f:aj}{N ps:am}{k:Nat}{m:Sm}(F:Fun K x qual st f fd)(Sc:FnScope N ps<|iU st)
  (body:∀(cdv:aa) (A:au) (outer:List Env) (s:aA) (H:Hp) (E:XK),Room k (A.deeper<|envOfC qual (iU st) s.heap.objs.size f cdv)->Hf (uP (Hj P w) P w K mg base N qual (iU st) f cdv A outer s H E) (lN st) m) :
  FnOk P w K mg base (Hj P w) (k+1) f fd ps (QY K ps.length<|lq N m):=by
 refine Fun.VE F Sc (λvs H Q E h=>h.1) λcdv B outer s H vs Q E z ⟨G,ρ,S,j,R,va,q⟩=>⟨_,body cdv B outer s H E z,ρ,S,_,R,AB va N,?_⟩;unfold lq at q
 cases hm:m (j++List.replicate (N.length-j.length) .unb) S with
 | rt b S2=>rw[hm]at q;exact q
 | nx τ S2=>rw[hm]at q;exact λρ' H' g e d _=>q ρ' H' _ e d .jC
 | bk τ S2=>rw[hm]at q;exact q.elim
 | ct τ S2=>rw[hm]at q;exact q.elim
 | no=>rw[hm]at q;exact q.elim
 | ex c S2=>
  rw[hm]at q;intro C ρ' H' n e d;exact⟨rfl,λpins g s' J I t=>GP I rfl t<|q C ρ' H' n e d⟩
end
abbrev PZ (P:ah)(w:af)(K:aq)(mg:Str->be)(base:ak)(k:Nat)(x:Str)(ps:am)(F:ad->iM->R A):Prop:=
 ∃(f:aj) (fd:FuncData),FnOk P w K mg base (Hj P w) k f fd ps (QY K ps.length F)/\mg x=some (.ref f)/\PySem.W.keepIn K (.ref f)=true/\Binds K fd ps []
abbrev HU (F:ad->iM->R A)(d:qJ):Ex:=λτ S=>(d τ S).bind λf S1=>F f S1
section
variable {X:Cx}{pos p:Pos}{e:aC}{es:List aC}{x:Str}{ps:am}{k:Nat}{F:ad->iM->R A}{d:qJ}
def Qy(G:PZ X.prog X.w X.K X.mg X.base k x ps F)(hr:Room k X.A)(ha:AL X (e::es) d)(hl:∀τ S as S',d τ S=.ok as S'->as.length=ps.length)(hg:Gl X x:=by rfl)(hdb:(x == ("__debug__" : Str))=false:=by decide)
  (hs:starEach (e::es) X.env=(false,eval e X.env)::starEach es X.env:=by rfl) (hplain:(backTo pos<|starEach es X.env).any (·.1)=false:=by rfl):AE X (.Call (.Name x p) (e::es) [] pos) (HU F d):=by
 obtain⟨f,fd,z,hm,B,hb⟩:=G;refine PE.imp (EF z hr hg hm B hb .nil (Il (X:=X) rfl rfl) ha hdb hs hplain) λσ H Q h9=>?_;room;refine⟨ρ,S,τ,R,r,?_⟩;have j:=iT h
 cases hd:d τ S with
 | no=>rw[hd]at j;exact j
 | ex c S1=>rw[hd]at j;exact j
 | ok as S1=>
  rw[hd]at j;intro ρ1 H1 vs e1 t m;rw[bM];refine⟨by rw[<- m.length];exact hl τ S as S1 hd,ρ1,S1,as,t,m,se j (λa S2 q g H2 v e2=>q g H2 v<|e1.trans e2) λc S2 q C g H2 n e2=>q C g H2 n<|e1.trans e2⟩
end
abbrev P5:ar:=[.type "ValueError",.type "Exception",.type "BaseException",.type "object"]
def Rt{K:aq}{mg:Str->be}{base:ak}{x:Str}(M:Mod K mg base)(e:Cr K x C)(q:PySem.W.excIn K C bmB newId=true):OwnCls x C bmB newId mg base:=by
 refine⟨cM M.kin M.glob e,?_⟩;unfold PySem.W.excIn at q;split at q
 ·rename_i dd cd t G;split at q
  ·rename_i L bm k0 k1 k2 k3 J k5 hm hs;rw[bE,bE,bE,bE,bE]at q;obtain⟨⟨⟨⟨⟨j,f⟩,d⟩,F⟩,z⟩,k⟩:=q;have j:=iy.mp j;have f:=iy.mp f;have d:cd.hasDel=false:=by simpa using d
   have k:=iy.mp k;subst j f;obtain⟨nm,bs,g,ns,B,hd,sn,sub,ab,col,m⟩:=cd;have hm:g=_:=hm;have d:m=false:=d;subst hm d;obtain⟨t⟩:=t;have hs:t=_:=hs;subst hs;exact⟨bm,ns,nm,B,bs,hd,sn,sub,ab,col,dd,k0,k1,k2,k3,k5,_,M.kin _ _ G,.of_isNs<|PySem.W.isNs_of_in M.kin z,PySem.W.nsMap_none_of_in M.kin z k,PySem.W.tail_of_in M.kin F⟩
  ·cases q
 ·cases q
abbrev Mt:List (Str ⊕ Ex)->ad->iM->R Unit
 | [],_,S=>.ok Unit.unit S
 | .inl _::ps,τ,S=>Mt ps τ S
 | .inr e::ps,τ,S=>(e τ S).bind λv S1=>match v with
  | .int i=>gd (i.natAbs.log2<64) (Mt ps τ S1)
  | _=>.no
abbrev Dr (c:Str)(ps:List<|Str ⊕ Ex):Sm:=λτ S=>.of (Mt ps τ S) λ_ S1=>.ex c S1
section
variable {X:Cx}{pos np cpos:Pos}{x:Str}{C:aj}
def G7{j tp}(hn:Cr X.K x C)(hq:PySem.W.excIn X.K C P5 "ValueError.__new__" = true)(hh:X.A.handled=none)(hg:Gl X x:=by rfl)
  (hs:starEach [.Constant (.str t) j tp] X.env=(false,eval (.Constant (.str t) j tp) X.env)::starEach [] X.env:=by rfl) (hpl:(backTo cpos<|starEach [] X.env).any (·.1)=false:=by rfl) (hd:(x == ("__debug__" : Str))=false:=by decide) :
  AS X (.Raise (some<|.Call (.Name x np) [.Constant (.str t) j tp] [] cpos) none pos) (Dr x []):=by
 intro pins s σ H D I ⟨ρ,S,τ,R,r,h⟩;refine Jl (Rt I.mod hn hq) PySem.F.excBase_ValueError hh (lB Ll rE hs) hg hs hpl hd pins s σ H D I ?_;exact⟨(show 1<=sizeLine by decide),h C ρ H hn .refl R⟩
end
abbrev Mv (i:Nat):RS->RS
 | .nx τ S=>.nx (τ.set i .unb) S
 | .bk τ S=>.bk (τ.set i .unb) S
 | .ct τ S=>.ct (τ.set i .unb) S
 | .rt a S=>.rt a S
 | _=>.no
abbrev Q9 (i n:Nat)(cs:am)(c d:Sm):Sm:=λτ S=>match c τ S with
 | .ex x S1=>if x∈cs then Mv i (d ((List.replicate n .unb).set i<|.exn x) S1)else .no
 | r=>r
def SR.unset{K:aq}{H:Hp}{τ:ad}{σ:L2.St}(s:SR K ρ H τ σ):SR K ρ H (τ.set i .unb) (σ.set i none):=by
 refine⟨by simp[s.len],λj b e=>?_⟩;by_cases d:j=i
 ·subst d;have f:j<τ.length:=by
   have:=(aJ.mp e).1;simpa using this
  rw[bK f]at e
  cases e
  exact .inl rfl
 ·rw[bN<|cQ d]at e;rw[bN<|cQ d];exact s.at j b e
abbrev uZ (f:Str->bj)(c:Ex):Ex:=λτ S=>(c τ S).bind λv S1=>match v with
 | .exn x=>opt (f x) λb=>.ok (.bl b) S1
 | _=>.no
section
variable {X:Cx}{pos p py:Pos}{a:aC}{y:Str}{vy:V}{cy:aa}{f:Str->bj}{c:Ex}
def IM(ry:∀u,RelV vy u->u=cy)(hf:∀x b C,f x=some b->Cr X.K x C->XCls X.K C/\(PySem.W.clsIn X.K C).isSome=true/\PySem.W.kitOne X.K (.ref C) cy=some b) :
  jH X (.builtin "isinstance") (λxs H Q=>∃ρ S x v b,Rel X.K ρ H S/\xs=[v,vy]/\AV X.K ρ H (.exn x) v/\f x=some b/\Q (.bl b) H):=by
 intro pins s σ H xs us Q I r ⟨ρ,S,x,v,b,R,d,va,hb,q⟩;subst d;obtain⟨u,t,rfl,r1,r2⟩:=vals2 r;have:=ry _ r2;subst this
 cases va with
 | exn n h j=>
  obtain⟨g,g2,k⟩:=hf _ _ _ hb n
  cases(show u=Value.ref _ from r1)
  exact CM g g2 I h j k λm=>⟨.bl b,H,I.tok m,rfl,q⟩
def J1(hy:PE X (.Name y py)<|tC vy)(ry:∀u,RelV vy u->u=cy)(hf:∀x b C,f x=some b->Cr X.K x C->XCls X.K C/\(PySem.W.clsIn X.K C).isSome=true/\PySem.W.kitOne X.K (.ref C) cy=some b)(ha:AE X a c)(hm:X.mg "isinstance" = none)(hg:Gl X "isinstance" := by rfl)
  (he:starEach [a,.Name y py] X.env=(false,eval a X.env)::starEach [.Name y py] X.env:=by rfl) (he2:starEach [.Name y py] X.env=(false,eval (.Name y py) X.env)::starEach [] X.env:=by rfl) (hpl:(backTo pos<|starEach [.Name y py] X.env).any (·.1)=false:=by rfl) :
  AE X (.Call (.Name "isinstance" p) [a,.Name y py] [] pos) (uZ f c):=
 PE.imp (AU (IM ry hf) hg hm jN (lB ha (lB hy rE he2) he) ⋯ ⋯ he hpl) λσ H Q h9=>by
  room;refine⟨ρ,S,τ,R,r,iN (iT h) .refl λv S1 h1 ρ1 H1 x e1 d g=>?_⟩
  cases v with
  | exn n=>
   obtain⟨b,hb,h1⟩:=iV h1;exact⟨ρ1,S1,n,x,b,d,rfl,g,hb,h1 ρ1 H1 _ e1 d<|.bl b⟩
  | _=>exact h1.elim
end
structure ExcK (K:aq)(U:aj)(c:Str)(C:aj):Prop where
 n:Cr K c C
 q:PySem.W.excIn K C P5 "ValueError.__new__" = true
 r:L2.mroIn K C=some (.ref U::P5)
 x:XCls K C
 cl:(PySem.W.clsIn K C).isSome=true
 v:PySem.W.kitOne K (.ref C) (.type "ValueError")=some true
def ym:bootBuiltins "ValueError" = some (.type "ValueError"):=by decide +kernel
abbrev GO (tb:List<|Str×Bool):Str->bj:=λx=>tb.lookup x
def Nx{K:aq}{tb:List<|Str×Bool}(h:∀p∈tb,∃C,Cr K p.1 C/\XCls K C/\(PySem.W.clsIn K C).isSome=true/\PySem.W.kitOne K (.ref C) cy=some p.2):∀x b C,GO tb x=some b->Cr K x C->XCls K C/\(PySem.W.clsIn K C).isSome=true/\PySem.W.kitOne K (.ref C) cy=some b:=λx b C e n=>by
 obtain⟨f,d,g⟩:=h (x,b)<|cG e;have:f=C:=by
  have z:=d.symm.trans n
  injection z with z
  injection z with z
  injection z
 subst this;exact g
section
variable {X:Cx}{pos p py:Pos}{a:aC}{y:Str}{Cy:aj}{tb:List (Str×Bool)}{c:Ex}
def rW(hm:X.mg y=some (.ref Cy))(h:∀p∈tb,∃C,Cr X.K p.1 C/\XCls X.K C/\(PySem.W.clsIn X.K C).isSome=true/\PySem.W.kitOne X.K (.ref C) (.ref Cy)=some p.2)(ha:AE X a c)(hi:X.mg "isinstance" = none)(hg:Gl X "isinstance" := by rfl)(hgy:Gl X y:=by rfl)(hdb:(y == ("__debug__" : Str))=false:=by decide)
  (he:starEach [a,.Name y py] X.env=(false,eval a X.env)::starEach [.Name y py] X.env:=by rfl) (he2:starEach [.Name y py] X.env=(false,eval (.Name y py) X.env)::starEach [] X.env:=by rfl) (hpl:(backTo pos<|starEach [.Name y py] X.env).any (·.1)=false:=by rfl) :
  AE X (.Call (.Name "isinstance" p) [a,.Name y py] [] pos) (uZ (GO tb) c):=J1 (vy:=.ref Cy) (cy:=.ref Cy) (DZ hgy hm rfl hdb) (λu r=>r) (Nx h) ha hi hg he he2 hpl
def PB(hm:X.mg "ValueError" = none)(h:∀p∈tb,∃C,Cr X.K p.1 C/\XCls X.K C/\(PySem.W.clsIn X.K C).isSome=true/\PySem.W.kitOne X.K (.ref C) (.type "ValueError")=some p.2)(ha:AE X a c)(hi:X.mg "isinstance" = none)(hg:Gl X "isinstance" := by rfl)(hgy:Gl X "ValueError" := by rfl)
  (he:starEach [a,.Name "ValueError" py] X.env=(false,eval a X.env)::starEach [.Name "ValueError" py] X.env:=by rfl) (he2:starEach [.Name "ValueError" py] X.env=(false,eval (.Name "ValueError" py) X.env)::starEach [] X.env:=by rfl) (hpl:(backTo pos<|starEach [.Name "ValueError" py] X.env).any (·.1)=false:=by rfl) :
  AE X (.Call (.Name "isinstance" p) [a,.Name "ValueError" py] [] pos) (uZ (GO tb) c):=J1 (vy:=.ty "ValueError") (cy:=.type "ValueError") (FH hgy hm ym rfl ⋯ ⋯) (λu r=>r) (Nx h) ha hi hg he he2 hpl
end
section
variable {P:ah}{w:af}{K:aq}{mg:Str->be}{base:ak}
def Vu{x:Str}{st:aE}{f:aj}{N ps:am}{k:Nat}{m:Sm}(F:Fun K x qual st f fd)(Sc:FnScope N ps<|iU st)
  (body:∀(cdv:aa) (A:au) (outer:List Env) (s:aA) (H:Hp) (e:aj) (oe:Obj) (C:aj),zw k (A.deeper<|envOfC qual (iU st) s.heap.objs.size f cdv)->A.handled=some (.ref e)->H e=some (.frz oe xu)->XO C oe->Hf (SV P w K mg base N qual (iU st) f cdv A outer s H) (lN st) m) :
  FnOkH P w K mg base (k+1) f fd ps (qR K ps.length<|lq N m):=by
 refine PU F Sc (λvs H Q E h=>h.1) λcdv B outer s H vs Q e oe C j hx ⟨J,ρ,S,g,a,G,R,va,d,q⟩=>⟨_,body cdv B outer s H e oe C j hx.hh hx.h0 hx.xo,ρ,S,_,R,AB va N,?_⟩;unfold lq at d
 cases hm:m (g++List.replicate (N.length-g.length) .unb) S with
 | rt b S2=>rw[hm]at d;cases d;exact q
 | nx τ S2=>rw[hm]at d;cases d;exact λρ' H' t e z _=>q ρ' H' _ e z .jC
 | bk τ S2=>rw[hm]at d;cases d
 | ct τ S2=>rw[hm]at d;cases d
 | ex c S2=>rw[hm]at d;cases d
 | no=>rw[hm]at d;cases d
end
meta abbrev QD (P:ah)(w:af)(K:aq)(mg:Str->be)(base:ak)(k:Nat)(x:Str)(ps:am)(F:ad->iM->R A):Prop:=Vd P w K mg base k x ps<|qR K ps.length F
def QF{X:Cx}{p:Pos}{a:aC}{x:Str}{ps:am}{k:Nat}{F:ad->iM->R A}{d:qJ}(G:QD X.prog X.w X.K X.mg X.base k x ps F)(hr:zw k X.A)(hh:X.A.handled=some (.ref e))(h0:X.H₀ e=some (.frz oe xu))(xo:XO C oe)(ha:AL X (a::es) d)(hl:∀τ S as S',d τ S=.ok as S'->as.length=ps.length)(hg:Gl X x:=by rfl)(hdb:(x == ("__debug__" : Str))=false:=by decide)
  (hs:starEach (a::es) X.env=(false,eval a X.env)::starEach es X.env:=by rfl) (hplain:(backTo pos<|starEach es X.env).any (·.1)=false:=by rfl):AE X (.Call (.Name x p) (a::es) [] pos) (eFn F d):=
 PE.imp (P9 G hr hh h0 xo ha hg hdb hs hplain) λσ H Q h9=>by
  room;refine⟨ρ,S,τ,R,r,?_⟩;have f:=iT h
  cases hd:d τ S with
  | no=>rw[hd]at f;exact f
  | ex c S1=>rw[hd]at f;exact f
  | ok as S1=>
   rw[hd]at f;intro ρ1 H1 vs e1 q m;rw[bM];refine⟨by rw[<- m.length];exact hl τ S as S1 hd,ρ1,S1,as,?_⟩;have f:Am.R.post (match F as S1 with
    | .ok a S2=>.ok a S2
    | _=>.no) (tY X ρ H Q) (XE X ρ H):=f
   cases g:F as S1 with
   | ok a S2=>rw[g]at f;exact⟨a,S2,q,m,rfl,λj H2 v e2=>f j H2 v<|e1.trans e2⟩
   | ex c S2=>rw[g]at f;exact f.elim
   | no=>rw[g]at f;exact f.elim
abbrev Up (X:Cx)(σ:L2.St)(cls:aa)(H':Hp):Prop:=X.ex=[]/\∀pins s' e,Inv X pins σ H' s'->vp X H' e cls s'->X.xe (.ref e) s'
abbrev Rm (X:Cx)(σ:L2.St)(ρ:ba)(H:Hp):Str->iM->Prop:=λc d=>∀(C:aj) (ρ':ba) (H':Hp),Cr X.K c C->Ext ρ ρ' H H'->Rel X.K ρ' H' d->Up X σ (.ref C) H'
abbrev Vv (X:Cx)(c:Ex):TE:=λσ H Q=>∃ρ S τ,Rel X.K ρ H S/\SR X.K ρ H τ σ/\(c τ S).post (tY X ρ H Q) (Rm X σ ρ H)
abbrev Vc (X:Cx)(e:aC)(c:Ex):Prop:=PE X e<|Vv X c
abbrev Vs (X:Cx)(c:Sm):TS:=λD σ H=>∃ρ S τ,Rel X.K ρ H S/\SR X.K ρ H τ σ/\(c τ S).post (zL X ρ H D.nx) (tY X ρ H D.rt) (zL X ρ H D.bk) (zL X ρ H D.ct) (Rm X σ ρ H)
abbrev UY (X:Cx)(st:aE)(c:Sm):Prop:=PS X st<|Vs X c
abbrev Jh (F:ad->iM->R A)(d:qJ):Ex:=λτ S=>match d τ S with
 | .ok f S1=>F f S1
 | _=>.no
section
variable {X:Cx}{pos p:Pos}{e:aC}{es:List aC}{x:Str}{ps:am}{k:Nat}{F:ad->iM->R A}{d:qJ}
def O9(G:PZ X.prog X.w X.K X.mg X.base k x ps F)(hr:Room k X.A)(ha:AL X (e::es) d)(hl:∀τ S as S',d τ S=.ok as S'->as.length=ps.length)(hg:Gl X x:=by rfl)(hdb:(x == ("__debug__" : Str))=false:=by decide)
  (hs:starEach (e::es) X.env=(false,eval e X.env)::starEach es X.env:=by rfl) (hplain:(backTo pos<|starEach es X.env).any (·.1)=false:=by rfl):Vc X (.Call (.Name x p) (e::es) [] pos) (Jh F d):=by
 obtain⟨f,fd,V,hm,hk,hb⟩:=G;intro pins s σ H Q I ⟨ρ,S,τ,R,r,h⟩;unfold Jh at h
 cases hd:d τ S with
 | no=>rw[hd]at h;exact h.elim
 | ex c S1=>rw[hd]at h;exact h.elim
 | ok as S1=>
  rw[hd]at h;have h:(F as S1).post (tY X ρ H Q) (Rm X σ ρ H):=h;refine eV<|sf I hg hm ?_ hdb;refine gR (h₀:=X.base) I.ok.mod.kin hk (ki (ha pos pins s σ H (λvs H1=>QY X.K ps.length F vs H1 Q λcls _ H'=>Up X σ cls H') I ⟨ρ,S,τ,R,r,?_⟩) λus J ⟨vs,H1,I1,P,q⟩=>⟨I1.wj,?_⟩) hs hplain
  ·rw[hd];intro ρ1 H1 vs e1 R1 O;exact⟨by rw[<- O.length];exact hl τ S as S1 hd,ρ1,S1,as,R1,O,se h (λa S2 q j H2 v e2=>q j H2 v<|e1.trans e2) λc S2 q C j H2 n e2=>q C j H2 n<|e1.trans e2⟩
  ·have N:us.length=ps.length:=by rw[<- P.length];exact q.1
   refine gQ (eU (V.run X.A X.stack J H1 ⟨us,[]⟩ us vs Q (λcls _ H'=>Up X σ cls H') hr I1.Pu (by have:=hb J us I1.wj (by rw[bM];exact N);rwa [bM]at this) P q) λr s' m=>?_)
   cases r with
   | error ev=>
    obtain⟨ea,cls,H',he,os,bare,un,hok,⟨B,a0,Fl,c1,c2,_,k0⟩,U⟩:=m;subst he;obtain⟨Y,g,dd,t,L⟩:=s';obtain rfl:L=J.os:=os;refine U.2 pins _ ea (I1.call (h':=Y) (g':=g) (d':=dd) (t':=t) (ch:=[]) un hok bare λb z=>absurd z<|by simp) (.inr ⟨B,a0,Fl,c1,λb o q hb=>?_,λp hp=>?_,k0⟩)
    ·obtain⟨o',q'⟩:=I1.base.there b o q (by rw[U.1];simp);exact c2 b o' q' hb
    ·obtain⟨q,_,Z,W,_⟩:=I1.pin p<|cC _ hp;exact c2 p.1 _ q λz=>(bh.mp<|I1.u7 _ z).elim Z W
   | ok fl=>
    cases fl with
    | ret u=>exact I1.after m
    | next=>exact m.elim
    | brk=>exact m.elim
    | cont=>exact m.elim
def JP{f:Ex}(he:Vc X e f)(hs:swapsWith e none pos.line X.env=pure false:=by rfl):UY X (.Expr e pos) (rO f):=PS.imp (ER he hs) λD σ H ⟨ρ,S,τ,R,r,h⟩=>
 ⟨ρ,S,τ,R,r,se (of_post h) (λa S1 h1 ρ1 H1 x e1 d g=>h1 ρ1 H1 σ e1 d<|r.ext e1) λ_ _ z=>z⟩
abbrev Rv (t:Te)(c d:Sm):Sm:=λτ S=>match t τ S with
 | .ok true S1=>c τ S1
 | .ok false S1=>d τ S1
 | _=>.no
end
abbrev yQ (i:Nat)(cs:am)(c d:Sm):Sm:=λτ S=>match c τ S with
 | .ex x S1=>if x∈cs then Mv i (d (τ.set i<|.exn x) S1)else .no
 | r=>r
section
variable {X:Cx}{pos np hp:Pos}{y n:Str}{Dc:aj}{i:Nat}{suite:List aE}{b b0:aE}{c d:Sm}{cs:am}
def MA(hb:∀pn' xe',UY (X.uo pn' xe') b c)(hh:∀pn' e oe C,XO C oe->Hf (X.hand pn' e oe) (b0::suite) d)(hN:X.N.Nodup)(hD:Cr X.K y Dc)(mD:L2.mroIn X.K Dc=some P5)(hcs:∀x∈cs,∃C,Cr X.K x C/\L2.mroIn X.K C=some (.ref Dc::P5))
  (hi:X.N[i]?=some n:=by rfl) (hlo:X.env.scope.names.lookup n=some .local:=by rfl) (hst:X.stack=X.env::X.outer:=by rfl) (hf:X.env.frame=some X.env.locals:=by rfl) (hex:X.ex=[]:=by rfl) (hg:Gl X y:=by rfl) (hdb:(y == ("__debug__" : Str))=false:=by decide) :
  AS X (.Try [b] [.ExceptHandler (some<|.Name y np) (some n) (b0::suite) hp] [] [] pos) (yQ i cs c d):=by
 intro pins s σ H D I ⟨ρ,S,τ,R,r,h⟩;refine wpAny_Try_except ?_;have h:yl X ρ H D (yQ i cs c d τ S):=h;unfold yQ at h;have G:∀xe',(∀x S1,c τ S=.ex x S1->Rm (X.uo (X.pn++pins) xe') σ ρ H x S1)->(c τ S).post (zL (X.uo (X.pn++pins) xe') ρ H D.nx) (tY (X.uo (X.pn++pins) xe') ρ H D.rt) (zL (X.uo (X.pn++pins) xe') ρ H D.bk) (zL (X.uo (X.pn++pins) xe') ρ H D.ct) (Rm (X.uo (X.pn++pins) xe') σ ρ H):=λxe' hx=>by
  cases hc:c τ S with
  | nx j t=>rw[hc]at h;exact h
  | rt a t=>rw[hc]at h;exact h
  | bk j t=>rw[hc]at h;exact h
  | ct j t=>rw[hc]at h;exact h
  | no=>rw[hc]at h;exact h
  | ex x S1=>exact hx x S1 hc
 refine cE (FT (hb (X.pn++pins) _) [] s σ H D (I.uo _) ⟨ρ,S,τ,R,r,G _ λx S1 hc C ρ1 H1 hn e1 Z=>?_⟩) (λf W hs=>?_) λe W z=>z
 ·refine⟨hex,λpins' s' e U k=>?_⟩;rw[hc]at h;have h:yl X ρ H D (if x∈cs then Mv i (d (τ.set i<|.exn x) S1)else .no):=h;by_cases hx:x∈cs
  ·rw[bf hx]at h;obtain⟨O,F,V⟩:=hcs x hx;have:O=C:=by
    have z:=F.symm.trans hn
    injection z with z
    injection z with z
    injection z
   subst this;have hm:X.mg y=some (.ref Dc):=cM I.mod.kin I.mod.glob hD;refine KJ hst hf hex hN hi hlo hg hm mD ⋯ U k V (by simp) (λoe Y P L I6=>?_) I.ok hdb;obtain⟨ex,Rn⟩:=Z.im (u:=.frz oe xu) L;have e2:=e1.trans ex;refine hh (X.pn++pins) e oe O P [] Y _ _ (TN i D) I6 ⟨ρ1,S1,τ.set i<|.exn x,Rn,SR.set (r.ext e2)<|.exn F jy P,?_⟩
   cases hd:d (τ.set i<|.exn x) S1 with
   | nx j t=>rw[hd]at h;exact λρ' H' g B k m=>h ρ' H' _ (e2.trans B) k m.unset
   | bk j t=>rw[hd]at h;exact λρ' H' g B k m=>h ρ' H' _ (e2.trans B) k m.unset
   | ct j t=>rw[hd]at h;exact λρ' H' g B k m=>h ρ' H' _ (e2.trans B) k m.unset
   | rt a t=>rw[hd]at h;exact λρ' H' v B k m=>h ρ' H' v (e2.trans B) k m
   | ex _ _=>rw[hd]at h;exact h.elim
   | no=>rw[hd]at h;exact h.elim
  ·rw[bu hx]at h;exact h.elim
 ·cases f with
  | next=>obtain⟨g,H',J,q⟩:=hs;exact fG ⟨g,H',J.Ez,q⟩
  | brk=>obtain⟨g,H',J,q⟩:=hs;exact⟨g,H',J.Ez,q⟩
  | cont=>obtain⟨g,H',J,q⟩:=hs;exact⟨g,H',J.Ez,q⟩
  | ret u=>obtain⟨v,g,H',J,rv,q⟩:=hs;exact⟨v,g,H',J.Ez,rv,q⟩
end
end Am
namespace L2
open PySem PySem.Spec PyProof.Rows
abbrev HX (e:aj)(oe:Obj)(Y:Cx):Prop:=Y.A.handled=some (.ref e)/\Y.H₀ e=some (.frz oe xu)
def CT{P:ah}{w:af}{K:aq}(ho:XO C oe)(a it:aj):TurnG (HX e oe) P w K tg (QU K a) [it] it (λi h=>h.IsListIter it a i) where
 obj:=(u5 (P:=P) (w:=w) (K:=K) (tg:=tg) a it).obj
 keep:=(u5 (P:=P) (w:=w) (K:=K) (tg:=tg) a it).keep
 item:=by
  z_go;subst hP hw hK;obtain⟨xs,x,g,hx⟩:=hg;obtain⟨k,m,p,N⟩:=I.list g;obtain⟨u,B,J⟩:=m.get hx;w_up;refine wpAny_pyNext_list_item st p.isList (x:=u) (by simpa using B) λh' f q=>?_;have I1:Inv X pins σ H { s with heap:=h' }:=I.turned (t':=s.toks) (λb o hb e=>(q.2 b hb).trans e) f0 f1 f3 f4 f5;obtain⟨o,e,c,d⟩:=id f;exact⟨u,rfl,yW (s:={ s with heap:=h' }) e c d ⋯ ⟨x,H,I1,J,⟨rfl,λys hy=>by rw[I.rA hy g];exact hx⟩,f,λb hb=>(hf b hb).1⟩⟩
 done:=by
  z_go;subst hP hw hK;obtain⟨xs,g,hx⟩:=hg;obtain⟨k,m,p,N⟩:=I.list g;w_up;obtain⟨vs,F,t⟩:=ho.ctx;have j:=I.base.frzs e oe xu hc.2;obtain⟨L,_⟩:=I.hok e _ j;have O:=m.length;exact CL hc.1 L F t (λz=>by rw[z,f0]at j;cases j) st p.isList (by simp;lia) λh' G=>⟨rfl,I.turned (t':=s.toks) (λb o hb e=>G b o hb e) f0 f1 f3 f4 f5⟩
 self:=λ_ _ _ _ _ st h=>wpAny_pyIter_listiter st h
def Bq{X:Cx}(ho:XO C oe){tl:TE}(hl:PE X l tl):Sf (HX e oe) X tg l (NP X.K tl):=by
 intro pins s σ H R I h;refine ki (hl pins s σ H _ I h) λv d h9=>?_;obtain⟨x,H1,I1,r1,f⟩:=h9;obtain⟨a,e,⟨xs,j⟩,q⟩:=f;subst e
 cases r1
 obtain⟨g,k,p,m⟩:=I1.list j;refine fR p.isList ?_;refine⟨d.heap.objs.size,[d.heap.objs.size],_,_,H1,rfl,I1.kept (t':=d.toks) λb o e=>aK _ e,CT ho a _,⟨_,bC _ rfl,rfl,rfl⟩,λb hb=>?_,q⟩;have e:b=d.heap.objs.size:=by simpa using hb
 subst e;kl_no
end L2
namespace Am
open PySem PySem.Spec PyProof.Rows L2
abbrev zj (c:Ex):Ic:=λτ S=>(c τ S).bind λa S1=>match a with
 | .ref n=>opt (iG S1 n) λxs=>.ok (jv n xs.length) S1
 | _=>.no
def MH(ho:XO C oe){c:Ex}(he:AE X l c):Sf (HX e oe) X tg l (tI X<|zj c):=λpins s σ H Q I h9=>by
 room;have hb:=iT h
 cases hc:c τ S with
 | no=>rw[hc]at hb;exact hb.elim
 | ex x S1=>
  rw[hc]at hb;exact Bq ho he pins s σ H Q I ⟨ρ,S,τ,R,r,by rw[hc];exact hb⟩
 | ok a S1=>
  rw[hc]at hb
  cases a with
  | ref n=>
   obtain⟨xs,hn,hb⟩:=iV hb;refine Bq ho he pins s σ H Q I ⟨ρ,S,τ,R,r,?_⟩;rw[hc];intro ρ1 H1 x e1 d f
   cases f with
   | ref hp=>
    obtain⟨vs,h1,r1⟩:=d.lst hp<|iW hn;exact⟨_,rfl,⟨_,kP.of h1⟩,hb ρ1 H1 _ e1 d<|JC hp⟩
  | _=>exact hb.elim
def Hl{X:Cx}{iter:aC}{N:am}{g:Tg}{t:Te}{c ci:Ex}(hh:X.A.handled=some (.ref e))(h0:X.H₀ e=some (.frz oe xu))(ho:XO C oe)
  (Sc:CpScope X scope N cap) (hi:AE X iter ci) (hg:∀C s₀ H₀ ex,AG (jk X scope N C s₀ H₀ ex) tg g) (ht:∀C s₀ H₀ ex,Mw (jk X scope N C s₀ H₀ ex) ifs t) (he:∀C s₀ H₀ ex,AE (jk X scope N C s₀ H₀ ex) elt c)
  (hs:∀x,foldedSetIterable iter X.env x=pure x:=by intro _;rfl):AE X (.ListComp elt [⟨tg,iter,ifs,0⟩] scope pos) (jb cap (zj ci) g t c):=
 PE.imp (JM Sc (λ_ _ _ _ d=>⟨hh,d e oe xu h0⟩) (MH ho hi) (g:=Kw X.K g) (tc:=Hi X.K t) (te:=LU X.K c) (λC s₀ H₀ ex=>(hg C s₀ H₀ ex).g0 rfl) (λC s₀ H₀ ex=>ht C s₀ H₀ ex) (λC s₀ H₀ ex=>(he C s₀ H₀ ex).e0 rfl) hs) xW
def GH{K:aq}{H:Hp}{a:aj}{ns:ae}{F:ad->iM->R A}(hO:M4 H)(hS:kP K H a<|ns.map V.int)(h:∃S',F [.frz<|ns.map .int] []=.ok (.bl true) S'):qR K 1 F [.ref a] H (λv _=>v=.bl true) λ_ _ _=>False:=by
 obtain⟨S',h⟩:=h;have fz:Fz K H a (ns.map V.int):=by
  rcases hS with(h|⟨o,h⟩)|h
  ·rcases hO a with z|⟨ob,xs,z⟩
   ·rw[h]at z;cases z
   ·rw[h]at z;cases z
  ·exact .inl ⟨o,h⟩
  ·exact .inr h
 exact⟨rfl,[],[],_,_,S',⟨rfl,List.nodup_nil,λn a o h=>by simp at h⟩,.cons (.frz fz<|rJ ns) .nil,h,λρ' H' v _ _ hv=>BV hv⟩
def CU{P:ar->Prop}(h:∀a0,P [a0]):∀us:ar,us.length=1->P us
 | [_],_=>h _
def F_{P:ar->Prop}(h:∀a0 a1,P [a0,a1]):∀us:ar,us.length=2->P us
 | [_,_],_=>h _ _
def OU{n:Nat}{us:ar}(h:us.length=n+1):∃a t,us=a::t/\t.length=n:=by
 cases us with
 | nil=>simp at h
 | cons a t=>exact⟨a,t,rfl,by simpa using h⟩
def Vx{P:ar->Prop}(h:∀a0 a1 a2,P [a0,a1,a2]):∀us:ar,us.length=3->P us:=λus e=>by
 obtain⟨a0,t0,rfl,e0⟩:=OU e;obtain⟨a1,d,rfl,e1⟩:=OU e0;obtain⟨a2,t2,rfl,e2⟩:=OU e1
 cases List.length_eq_zero_iff.mp e2
 exact h _ _ _
end Am
namespace Am
open PySem L2
section
variable {α β:Type}{a b:A}{S S1:iM}{τ:ad}{x:α}
@[simp]def R.jZ {f:α->iM->R β}:(R.ok x S).bind f=f x S:=rfl
@[simp]def R.Er {f:α->iM->R β}{c:Str}:(R.ex c S:R α).bind f=.ex c S:=rfl
@[simp]def R.jf {f:α->iM->R β}:(R.ok x S).jD f=f x S:=rfl
@[simp]def RS.of_ok {f:α->iM->RS}:RS.of (R.ok x S) f=f x S:=rfl
@[simp]def RS.NR {f:α->iM->RS}{c:Str}:RS.of (R.ex c S:R α) f=.ex c S:=rfl
@[simp]def i8 {f:β->R α}{y:β}:opt (some y) f=f y:=rfl
@[simp]def Gb {r:R α}:gd True r=r:=bf trivial
theorem kq{c:Prop}[Decidable c]{r:R α}(h:c):gd c r=r:=bf h
@[simp]def nU {i:Nat}:iE i τ S=bif (τ.getD i .unb).j5 then .no else .ok (τ.getD i .unb) S:=by unfold iE;cases(τ.getD i .unb).j5<;>rfl
@[simp]def E5 {xs:ad}:A.j5 (.tup xs)=false:=rfl
@[simp]def FY {xs:ad}:A.j5 (.frz xs)=false:=rfl
@[simp]def FN {i:Int}:A.j5 (.int i)=false:=rfl
@[simp]def K9 {i:Bool}:A.j5 (.bl i)=false:=rfl
@[simp]def Et {i:Str}:A.j5 (.str i)=false:=rfl
@[simp]def FD {i:Nat}:A.j5 (.ref i)=false:=rfl
@[simp]def F3:A.j5 .jC=false:=rfl
@[simp]def E3 {i j:Int}:A.j5 (.rng i j)=false:=rfl
@[simp]def FW {c:Str}:A.j5 (.exn c)=false:=rfl
@[simp]def Om:eC a τ S=.ok a S:=rfl
abbrev Rq (f:A->A->iM->R A)(cb:Ex)(τ:ad)(a:A)(S:iM):R A:=(cb τ S).bind<|f a
@[simp]def ET {f:A->A->iM->R A}{cb:Ex}:Rq f cb τ a S=(cb τ S).bind (f a):=rfl
@[simp]def Dv {f:A->A->iM->R A}{ca cb:Ex}:iK f ca cb τ S=(ca τ S).bind (Rq f cb τ):=rfl
@[simp]def J9 {f:A->iM->R A}{ca:Ex}:Bx f ca τ S=(ca τ S).bind f:=rfl
@[simp]def FU {c:Ex}:sJ c τ S=(c τ S).bind λa S1=>opt (a.RV S1) λb=>.ok b S1:=rfl
abbrev aB (a:A)(S:iM):R Bool:=match a with
 | .bl b=>.ok b S
 | _=>.no
@[simp]def Oj {b:Bool}:aB (.bl b) S=.ok b S:=rfl
@[simp]def IT {c:Ex}:qK c τ S=(c τ S).bind aB:=rfl
@[simp]def Fw {c:Te}:sE c τ S=(c τ S).bind λb S1=>.ok (!b) S1:=rfl
abbrev P8 (d:Te)(τ:ad)(b:Bool)(S:iM):R Bool:=match b with|true=>d τ S|false=>.ok false S
abbrev Uu (d:Te)(τ:ad)(b:Bool)(S:iM):R Bool:=match b with|true=>.ok true S|false=>d τ S
@[simp]def JU {d:Te}:P8 d τ true S=d τ S:=rfl
@[simp]def IB {d:Te}:P8 d τ false S=.ok false S:=rfl
@[simp]def NK {d:Te}:Uu d τ true S=.ok true S:=rfl
@[simp]def NF {d:Te}:Uu d τ false S=d τ S:=rfl
@[simp]def EM {c d:Te}:KC c d τ S=(c τ S).bind (P8 d τ):=rfl
@[simp]def Li {c d:Te}:Hh c d τ S=(c τ S).bind (Uu d τ):=rfl
@[simp]def DX:jt τ S=.ok true S:=rfl
abbrev J6 (d:Ex)(τ:ad)(a:A)(S:iM):R A:=match a with | .bl true=>d τ S | .bl false=>.ok (.bl false) S|_=>.no
abbrev PN (d:Ex)(τ:ad)(a:A)(S:iM):R A:=match a with | .bl true=>.ok (.bl true) S | .bl false=>d τ S|_=>.no
@[simp]def Fe {d:Ex}:J6 d τ (.bl true) S=d τ S:=rfl
@[simp]def FE {d:Ex}:J6 d τ (.bl false) S=.ok (.bl false) S:=rfl
@[simp]def HJ {d:Ex}:PN d τ (.bl true) S=.ok (.bl true) S:=rfl
@[simp]def Lh {d:Ex}:PN d τ (.bl false) S=d τ S:=rfl
@[simp]def F0 {c d:Ex}:rV c d τ S=(c τ S).bind (J6 d τ):=by
 unfold rV
 cases c τ S with
 | ok a S1=>cases a<;>first|rfl|(rename_i b;cases b<;>rfl)
 | _=>rfl
@[simp]def Jp {c d:Ex}:Ve c d τ S=(c τ S).bind (PN d τ):=by
 unfold Ve
 cases c τ S with
 | ok a S1=>cases a<;>first|rfl|(rename_i b;cases b<;>rfl)
 | _=>rfl
abbrev NO (a:A)(S:iM):R A:=match a with | .bl b=>.ok (.bl !b) S|_=>.no
@[simp]def BY {b:Bool}:NO (.bl b) S=.ok (.bl !b) S:=rfl
@[simp]def Ea {c:Ex}:Nt c τ S=(c τ S).bind NO:=rfl
abbrev O1 (c d:Ex)(τ:ad)(b:Bool)(S:iM):R A:=match b with|true=>c τ S|false=>d τ S
@[simp]def K6 {c d:Ex}:O1 c d τ true S=c τ S:=rfl
@[simp]def Lc {c d:Ex}:O1 c d τ false S=d τ S:=rfl
@[simp]def KR {t:Te}{c d:Ex}:VD t c d τ S=(t τ S).bind (O1 c d τ):=rfl
@[simp]def DR:iJ τ S=.ok [] S:=rfl
abbrev CN (a:A)(as:ad)(S:iM):R (ad):=.ok (a::as) S
abbrev ND (d:qJ)(τ:ad)(a:A)(S:iM):R (ad):=(d τ S).bind<|CN a
@[simp]def zx {as:ad}:CN a as S=.ok (a::as) S:=rfl
@[simp]def Cj {d:qJ}:ND d τ a S=(d τ S).bind (CN a):=rfl
@[simp]def B_ {c:Ex}{d:qJ}:iD c d τ S=(c τ S).bind (ND d τ):=rfl
@[simp]def D9 {d:qJ}:tX d τ S=(d τ S).bind λas S1=>gd (as.length<=sizeLine) (.ok (.tup as) S1):=rfl
@[simp]def DQ {d:qJ}:jQ d τ S=(d τ S).bind newL:=rfl
theorem jE{as:ad}(h:as.length<=16777216):newL as S=.ok (.ref S.length) (S++[.lst as]):=kq<|by rw[cO];exact h
@[simp]def A8 {f:ad->iM->R A}{d:qJ}:iX f d τ S=(d τ S).bind f:=rfl
abbrev Tj (r:R A):R A:=match r with
 | .ok a S=>.ok a S
 | _=>.no
@[simp]def K5:Tj (.ok a S)=.ok a S:=rfl
abbrev Va (f:ad->iM->R A)(as:ad)(S:iM):R A:=Tj<|f as S
@[simp]def HC {f:ad->iM->R A}{as:ad}:Va f as S=Tj (f as S):=rfl
@[simp]def I_ {f:ad->iM->R A}{d:qJ}:eFn f d τ S=(d τ S).bind (Va f):=rfl
@[simp]def Oi {g:A->iM->R A}:f1 g [a] S=g a S:=rfl
@[simp]def N2 {g:A->A->iM->R A}:f2 g [a,b] S=g a b S:=rfl
abbrev P1 (h:Pt)(τ:ad)(a:A)(l:bi)(S:iM):R A:=(h τ S).bind<|Sk a l
abbrev UZ (l h:Pt)(τ:ad)(a:A)(S:iM):R A:=(l τ S).bind<|P1 h τ a
@[simp]def El {h:Pt}{l:bi}:P1 h τ a l S=(h τ S).bind (Sk a l):=rfl
@[simp]def Ig {l h:Pt}:UZ l h τ a S=(l τ S).bind (P1 h τ a):=rfl
@[simp]def Hv {c:Ex}{l h:Pt}:LS c l h τ S=(c τ S).bind (UZ l h τ):=rfl
@[simp]def Cm:sN τ S=.ok none S:=rfl
abbrev Vj (a:A)(S:iM):R (bi):=match a with
 | .int i=>.ok (some i) S
 | _=>.no
@[simp]def DL {i:Int}:Vj (.int i) S=.ok (some i) S:=rfl
@[simp]def Bh {c:Ex}:sO c τ S=(c τ S).bind Vj:=rfl
abbrev OA (f:A->ad->iM->R A)(d:qJ)(τ:ad)(o:A)(S:iM)(_:ad):R A:=(d τ S).bind<|f o
abbrev U5 (f:A->ad->iM->R A)(d:qJ)(τ:ad)(o:A)(S:iM):R A:=opt (o.lst? S)<|OA f d τ o S
@[simp]def Dy {f:A->ad->iM->R A}{d:qJ}{xs:ad}:OA f d τ a S xs=(d τ S).bind (f a):=rfl
@[simp]def J_ {f:A->ad->iM->R A}{d:qJ}:U5 f d τ a S=opt (a.lst? S) (OA f d τ a S):=rfl
@[simp]def KQ {f:A->ad->iM->R A}{c:Ex}{d:qJ}:Mx f c d τ S=(c τ S).bind (U5 f d τ):=rfl
@[simp]def Ek {f:A->ad->iM->R A}{c:Ex}:Qu f c τ S=(c τ S).bind λo S1=>opt (o.lst? S1) λ_=>f o [] S1:=rfl
@[simp]def lst?_ref {n:Nat}:A.lst? S (.ref n)=iG S n:=rfl
abbrev RS.seq (r:RS)(d:Sm):RS:=match r with
 | .nx τ S=>d τ S
 | r=>r
@[simp]def RS.Kv {d:Sm}:RS.seq (.nx τ S) d=d τ S:=rfl
@[simp]def RS.KD {d:Sm}:RS.seq (.rt a S) d=.rt a S:=rfl
@[simp]def RS.HV {d:Sm}{c:Str}:RS.seq (.ex c S) d=.ex c S:=rfl
@[simp]def RS.Ke {d:Sm}:RS.seq (.bk τ S) d=.bk τ S:=rfl
@[simp]def RS.LC {d:Sm}:RS.seq (.ct τ S) d=.ct τ S:=rfl
@[simp]def EN {c d:Sm}:ja c d τ S=RS.seq (c τ S) d:=by unfold ja RS.seq;cases c τ S<;>rfl
@[simp]def Fg:mE τ S=.nx τ S:=rfl
@[simp]def zm:Qk τ S=.bk τ S:=rfl
@[simp]def A9:QV τ S=.ct τ S:=rfl
@[simp]def Be {e:Ex}:rO e τ S=RS.of (e τ S) λ_ S1=>.nx τ S1:=rfl
@[simp]def Ff {e:Ex}:jR e τ S=RS.of (e τ S) .rt:=rfl
@[simp]def A2:Q5 τ S=.rt .jC S:=rfl
abbrev SM (c d:Sm)(τ:ad)(b:Bool)(S:iM):RS:=match b with|true=>c τ S|false=>d τ S
@[simp]def NW {c d:Sm}:SM c d τ true S=c τ S:=rfl
@[simp]def NC {c d:Sm}:SM c d τ false S=d τ S:=rfl
@[simp]def KH {t:Te}{c d:Sm}:qT t c d τ S=RS.of (t τ S) (SM c d τ):=rfl
abbrev SD (g:Tg)(τ:ad)(a:A)(S:iM):RS:=RS.of (g a τ S) .nx
@[simp]def EW {g:Tg}:SD g τ a S=RS.of (g a τ S) .nx:=rfl
@[simp]def Eh {e:Ex}{g:Tg}:jn e g τ S=RS.of (e τ S) (SD g τ):=rfl
@[simp]def Uz {i:Nat}:je i a τ S=.ok (τ.set i a) S:=rfl
abbrev Pz (a o:A)(τ:ad)(i:A)(S:iM):R (ad):=(BJ o i a S).bind λ_ S3=>.ok τ S3
abbrev UT (ci:Ex)(τ:ad)(a o:A)(S:iM):R (ad):=(ci τ S).bind<|Pz a o τ
@[simp]def DA {o i:A}:Pz a o τ i S=(BJ o i a S).bind λ_ S3=>.ok τ S3:=rfl
@[simp]def Jy {ci:Ex}{o:A}:UT ci τ a o S=(ci τ S).bind (Pz a o τ):=rfl
@[simp]def Km {co ci:Ex}:Cp co ci a τ S=(co τ S).bind (UT ci τ a):=rfl
@[simp]def Jc {n:Nat}{gs:LV}{xs:ad}:Ft n gs (.tup xs) τ S=gd (xs.length=n) (gs xs τ S):=rfl
@[simp]def Ji:Em [] τ S=.ok τ S:=rfl
@[simp]def HL {g:Tg}{gs:LV}{as:ad}:v_ g gs (a::as) τ S=(g a τ S).bind (gs as):=rfl
abbrev U7 (i j:Nat)(τ:ad)(as:ad)(S:iM):RS:=match as with
 | [a,b]=>.nx ((τ.set i a).set j b) S
 | _=>.no
@[simp]def Ih {i j:Nat}:U7 i j τ [a,b] S=.nx ((τ.set i a).set j b) S:=rfl
@[simp]def E7 {i j:Nat}{c:qJ}:Ub i j c τ S=RS.of (c τ S) (U7 i j τ):=rfl
abbrev Kh (i:Nat)(τ:ad)(c:A)(S:iM):RS:=.nx (τ.set i c) S
abbrev Ro (i:Nat)(f:A->A->iM->R A)(τ:ad)(b:A)(S:iM):RS:=.of (f (τ.getD i .unb) b S)<|Kh i τ
@[simp]def A1 {i:Nat}:Kh i τ a S=.nx (τ.set i a) S:=rfl
@[simp]def F4 {i:Nat}{f:A->A->iM->R A}:Ro i f τ a S=.of (f (τ.getD i .unb) a S) (Kh i τ):=rfl
@[simp]def D3 {i:Nat}{f:A->A->iM->R A}{e:Ex}:K2 i f e τ S=bif (τ.getD i .unb).j5 then .no else .of (e τ S) (Ro i f τ):=by
 unfold K2;cases(τ.getD i .unb).j5<;>rfl
abbrev Ur (o i:A)(τ:ad)(z:A)(S:iM):RS:=.of (BJ o i z S) λ_ S6=>.nx τ S6
abbrev Uo (f:A->A->iM->R A)(o i x:A)(τ:ad)(y:A)(S:iM):RS:=.of (f x y S)<|Ur o i τ
abbrev TM (ce:Ex)(f:A->A->iM->R A)(o i:A)(τ:ad)(x:A)(S:iM):RS:=.of (ce τ S)<|Uo f o i x τ
abbrev UC (ce:Ex)(f:A->A->iM->R A)(o:A)(τ:ad)(i:A)(S:iM):RS:=.of (LX o i S)<|TM ce f o i τ
abbrev UX (ci ce:Ex)(f:A->A->iM->R A)(τ:ad)(o:A)(S:iM):RS:=.of (ci τ S)<|UC ce f o τ
@[simp]def KG {o i:A}:Ur o i τ a S=.of (BJ o i a S) λ_ S6=>.nx τ S6:=rfl
@[simp]def Iv {f:A->A->iM->R A}{o i x:A}:Uo f o i x τ a S=.of (f x a S) (Ur o i τ):=rfl
@[simp]def HS {ce:Ex}{f:A->A->iM->R A}{o i:A}:TM ce f o i τ a S=.of (ce τ S) (Uo f o i a τ):=rfl
@[simp]def KL {ce:Ex}{f:A->A->iM->R A}{o:A}:UC ce f o τ a S=.of (LX o a S) (TM ce f o a τ):=rfl
@[simp]def Lx {ci ce:Ex}{f:A->A->iM->R A}:UX ci ce f τ a S=.of (ci τ S) (UC ce f a τ):=rfl
@[simp]def AQ {co ci ce:Ex}{f:A->A->iM->R A}:Ru co ci ce f τ S=RS.of (co τ S) (UX ci ce f τ):=rfl
abbrev RS.end (r:RS):R A:=match r with
 | .rt a d=>.ok a d
 | .nx _ d=>.ok .jC d
 | .ex c d=>.ex c d
 | _=>.no
@[simp]def RS.IP:RS.end (.rt a S)=.ok a S:=rfl
@[simp]def RS.Lr:RS.end (.nx τ S)=.ok .jC S:=rfl
@[simp]def RS.KI {c:Str}:RS.end (.ex c S)=.ex c S:=rfl
theorem wJ {N:am}{m:Sm}{as:ad}:lq N m as S=RS.end (m (as++List.replicate (N.length-as.length) .unb) S):=by
 unfold lq RS.end;cases m (as++List.replicate (N.length-as.length) .unb) S<;>rfl
@[simp]def LF {i j:Int}:jJ (.int i) (.int j) S=.ok (.int<|i+j) S:=rfl
@[simp]def Lf {i j:Int}:aSub (.int i) (.int j) S=.ok (.int<|i-j) S:=rfl
@[simp]def HG {i j:Int}:TR (.int i) (.int j) S=.ok (.int<|i+j) S:=rfl
theorem Ga{i j:Int}(h:-18446744073709551616<i)(h':i<18446744073709551616):yq (.int i) (.int j) S=.ok (.int<|i * j) S:=kq<|by unfold DT;simp;left;exact⟨by omega,by omega⟩
def Jv{i j:Int}(h:0<j)(h':j<1073741824):DY (.int i) (.int j) S=.ok (.int<|i / j) S:=kq ⟨h,()⟩
def zq{i j:Int}(h:0<j):wu (.int i) (.int j) S=.ok (.int<|i % j) S:=kq h
@[simp]def NY {i j:Int}:Nc (.int i) (.int j) S=.ok (.bl<|decide<|i<j) S:=rfl
@[simp]def NJ {i j:Int}:Cn (.int i) (.int j) S=.ok (.bl<|decide<|i<=j) S:=rfl
@[simp]def NX {i j:Int}:LQ (.int i) (.int j) S=.ok (.bl<|decide<|j<i) S:=rfl
@[simp]def NT {i j:Int}:Rl (.int i) (.int j) S=.ok (.bl<|decide<|j<=i) S:=rfl
@[simp]def Oa {i j:Bool}:Ol false (.bl i) (.bl j) S=.ok (.bl<|i == j) S:=rfl
@[simp]def La {i j:Bool}:Ol true (.bl i) (.bl j) S=.ok (.bl<|i != j) S:=rfl
@[simp]def JF {i:Int}:vq (.int i) S=.ok (.int<|-i) S:=rfl
@[simp]def Lu {xs:ad}:kj (.tup xs) S=.ok (.int xs.length) S:=rfl
@[simp]def Jr {xs:ad}:kj (.frz xs) S=.ok (.int xs.length) S:=rfl
@[simp]def Hr {n:Nat}:kj (.ref n) S=opt (iG S n) λxs=>.ok (.int xs.length) S:=rfl
@[simp]def Ir {i:Int}:TV (.int i) S=.ok (.int<|if i<0 then -i else i) S:=rfl
@[simp]def FL {i j:Int}:Js (.int i) (.int j) S=.ok (.int<|if j>i then j else i) S:=rfl
@[simp]def Eg {i j:Int}:LM (.int i) (.int j) S=.ok (.int<|if j<i then j else i) S:=rfl
@[simp]def EY {i:Int}:NS (.int i) S=.ok (.int i) S:=rfl
@[simp]def E6 {i:Bool}:NS (.bl i) S=.ok (.int<|if i then 1 else 0) S:=rfl
@[simp]def zM {i j:Int}:wK (.int i) (.int j) S=.ok (.rng i j) S:=rfl
@[simp]def NG {xs:ad}{i:Int}:j8 (.tup xs) (.int i) S=opt (ng xs i) λx=>.ok x S:=rfl
@[simp]def N5 {xs:ad}{i:Int}:j8 (.frz xs) (.int i) S=opt (ng xs i) λx=>.ok x S:=rfl
@[simp]def N8 {n:Nat}{i:Int}:j8 (.ref n) (.int i) S=opt (iG S n) λxs=>opt (ng xs i) λx=>.ok x S:=rfl
@[simp]def JQ {n:Nat}{k:Int}:BJ (.ref n) (.int k) a S=opt (iG S n) λxs=>opt (wV xs.length k) λj=>.ok Unit.unit (S.set n<|.lst<|xs.set j a):=rfl
@[simp]def Io {n:Nat}{i:Int}:LX (.ref n) (.int i) S=opt (iG S n) λxs=>gd (0<=i) (opt (xs[i.toNat]?) λx=>.ok x S):=rfl
theorem yP{i j:Int}(h:yL i j):mW (.rng i j) S=.ok (.ref S.length) (S++[.lst<|(jG i j).map .int]):=kq h
@[simp]def DU {xs:ad}:mW (.tup xs) S=.ok (.ref S.length) (S++[.lst xs]):=rfl
@[simp]def Eb {xs:ad}:mW (.frz xs) S=.ok (.ref S.length) (S++[.lst xs]):=rfl
@[simp]def Dw {n:Nat}:mW (.ref n) S=opt (iG S n) λxs=>.ok (.ref S.length) (S++[.lst xs]):=rfl
@[simp]def Bu {xs:ad}:pJ (.tup xs) S=.ok (.tup xs) S:=rfl
@[simp]def BD {n:Nat}:pJ (.ref n) S=opt (iG S n) λxs=>.ok (.tup xs) S:=rfl
@[simp]def JT {xs:ad}:Dj (.tup xs) S=.ok (.tup xs.reverse) S:=rfl
@[simp]def LA {n:Nat}:Dj (.ref n) S=opt (iG S n) λxs=>.ok (.ref S.length) (S++[.lst xs.reverse]):=rfl
@[simp]def NZ {n:Nat}{l u:bi}:Sk (.ref n) l u S=opt (iG S n) λxs=>.ok (.ref S.length) (S++[.lst<|vf xs l u]):=rfl
@[simp]def xV {n:Nat}:qy (.ref n) [a] S=opt (iG S n) λxs=>gd (xs.length<sizeLine) (.ok .jC<|S.set n<|.lst<|xs++[a]):=rfl
@[simp]def JS {b:Bool}:A.RV (.bl b) S=some b:=rfl
@[simp]def DS {i:Int}:A.RV (.int i) S=some (i != 0):=rfl
theorem Qq{o:O}:(S++[o])[S.length]?=some o:=by simp
@[simp]def iR {xs:ad}:iG (S++[.lst xs]) S.length=some xs:=uH Qq
theorem jj{o:O}{n:Nat}(h:iG S n=some xs):iG (S++[o]) n=some xs:=by
 have h':=iW h;exact uH<|by rw[aT (aJ.mp h').1];exact h'
def qH{n:Nat}(h:iG S n=some xs):n<S.length:=(aJ.mp<|iW h).1
def oV{n:Nat}(h:n<S.length):iG (S.set n<|.lst ys) n=some ys:=uH<|bK h
def kh{n:Nat}(h:n≠m):iG (S.set n<|.lst ys) m=iG S m:=by unfold iG;rw[bN h]
def nJ{xs:ad}{i:Int}{k:Nat}{x:A}(h:i=k)(hx:xs[k]?=some x):ng xs i=some x:=by rw[h];exact Nj hx
def qI{n:Nat}{i:Int}{k:Nat}(h:i=k)(hk:k<n):wV n i=some k:=by
 subst h;unfold wV;rw[bf (),bf ()];simp
end
structure Kp (b:Nat->Prop)(S S':iM):Prop where
 len:S.length<=S'.length
 obj:∀(n:Nat) (o:O),¬b n->S[n]?=some o->S'[n]?=some o
meta abbrev jL:=Kp λ_=>False
def Kp.lst{b:Nat->Prop}(h:Kp b S S')(n:Nat)(xs:ad)(hb:¬b n)(e:iG S n=some xs):iG S' n=some xs:=uH<|h.obj n _ hb<|iW e
def Kp.refl{b:Nat->Prop}:Kp b S S:=⟨aL _,λ_ _ _ h=>h⟩
def Kp.trans{b:Nat->Prop}(h:Kp b S S1)(h':Kp b S1 S2):Kp b S S2:=⟨bX h.len h'.len,λn xs hb e=>h'.obj n xs hb<|h.obj n xs hb e⟩
def Av{S:iM}{n:Nat}(e:S[n]?=some o):n<S.length:=(aJ.mp e).1
def Kp.lay{b:Nat->Prop}{o:O}(h:Kp b S S1):Kp b S (S1++[o]):=⟨bX h.len<|by simp,λn xs hb e=>by
 have:=h.obj n xs hb e;rw[aT<|Av this];exact this⟩
def Kp.Ri{b:Nat->Prop}{S S1:iM}(h:Kp b S S1)(hm:b m\/S.length<=m):Kp b S (S1.set m o):=⟨by rw[aZ];exact h.len,λn xs hb e=>by
 have:m≠n:=λz=>by
  subst z
  rcases hm with z|z
  ·exact hb z
  ·exact absurd (Av e) ()
 rw[bN this];exact h.obj n xs hb e⟩
def Kp.set{b:Nat->Prop}{S S1:iM}(h:Kp b S S1)(hm:b m\/S.length<=m):Kp b S (S1.set m<|.lst ys):=h.Ri hm
def Kp.mono{b c:Nat->Prop}{S:iM}(h:Kp b S S1)(hb:∀n,n<S.length->b n->c n):Kp c S S1:=⟨h.len,λn xs hc e=>h.obj n xs (λz=>hc<|hb n (Av e) z) e⟩
def Kp.of0{b:Nat->Prop}(h:jL S S1):Kp b S S1:=h.mono λ_ _ z=>z.elim
def Kp.old{b c:Nat->Prop}{S:iM}(h:Kp b S S1)(h':Kp c S1 S2)(hc:∀n,n<S.length->¬b n->¬c n):Kp b S S2:=⟨bX h.len h'.len,λn xs hb e=>h'.obj n xs (hc n (Av e) hb)<|h.obj n xs hb e⟩
theorem xQ{t:Te}{c:Sm}(Inv:ad->iM->Prop)(μ:ad->iM->Nat)(Post:RS->Prop)
  (h:∀τ S,Inv τ S->(∃S1,t τ S=.ok false S1/\Post (.nx τ S1))\/(∃S1,t τ S=.ok true S1/\((∃τ' S',c τ S1=.nx τ' S'/\Inv τ' S'/\μ τ' S'<μ τ S)\/(∃a S',c τ S1=.rt a S'/\Post (.rt a S'))))) :
  ∀n τ S,Inv τ S->μ τ S<n->Post (lY t c n τ S)
 | 0,_,_,_,hn=>absurd hn (cU _)
 | n+1,τ,S,hi,hn=>by
  unfold lY
  rcases h τ S hi with⟨S1,e,q⟩|⟨S1,e,⟨τ',S',e2,d,hm⟩|⟨a,S',e2,q⟩⟩
  ·rw[e];exact q
  ·rw[e];show Post (match c τ S1 with
    | .nx τ' S'=>lY t c n τ' S'
    | .ct τ' S'=>lY t c n τ' S'
    | .bk τ' S'=>.nx τ' S'
    | r=>r)
   rw[e2];exact xQ Inv μ Post h n τ' S' d ()
  ·rw[e];show Post (match c τ S1 with
    | .nx τ' S'=>lY t c n τ' S'
    | .ct τ' S'=>lY t c n τ' S'
    | .bk τ' S'=>.nx τ' S'
    | r=>r)
   rw[e2];exact q
theorem Ae{s:Src}{g:Tg}{c:Sm}(Inv:Nat->ad->iM->Prop)(Post:RS->Prop)
  (step:∀i τ S,i<s.k->Inv i τ S->∃x τ1 S1,s.get i S=some x/\g x τ S=.ok τ1 S1/\((∃τ' S',c τ1 S1=.nx τ' S'/\Inv (i+1) τ' S')\/(∃a S',c τ1 S1=.rt a S'/\Post (.rt a S'))))
  (fin:∀τ S,Inv s.k τ S->s.fin S=true/\Post (.nx τ S)):∀k i τ S,k+i=s.k->Inv i τ S->Post (o8 s g c k i τ S)
 | 0,i,τ,S,hk,hi=>by
  have:i=s.k:=()
  subst this;obtain⟨hf,q⟩:=fin τ S hi;unfold o8;rw[bf hf];exact q
 | k+1,i,τ,S,hk,hi=>by
  obtain⟨x,τ1,S1,hx,hg,h⟩:=step i τ S () hi;unfold o8;rw[hx];show Post (RS.of (g x τ S) λτ1 S1=>match c τ1 S1 with
   | .nx τ' S'=>o8 s g c k (i+1) τ' S'
   | .ct τ' S'=>o8 s g c k (i+1) τ' S'
   | .bk τ' S'=>.nx τ' S'
   | r=>r)
  rw[hg];show Post (match c τ1 S1 with
   | .nx τ' S'=>o8 s g c k (i+1) τ' S'
   | .ct τ' S'=>o8 s g c k (i+1) τ' S'
   | .bk τ' S'=>.nx τ' S'
   | r=>r)
  rcases h with⟨τ',S',e,d⟩|⟨a,S',e,q⟩
  ·rw[e];exact Ae Inv Post step fin k (i+1) τ' S' () d
  ·rw[e];exact q
def ug{lo hi:Int}{c:Sm}{src:Ic}{τ:ad}(hs:src τ S=.ok (nH lo hi) S1)(Inv:Nat->ad->iM->Prop)(Post:RS->Prop)(h0:Inv 0 τ S1)
  (step:∀(i:Nat) τ S,(i:Int)<hi-lo->Inv i τ S->(∃τ' S',c (τ.set j<|.int<|lo+i) S=.nx τ' S'/\Inv (i+1) τ' S')\/(∃a S',c (τ.set j<|.int<|lo+i) S=.rt a S'/\Post (.rt a S')))
  (fin:∀τ S,Inv (hi-lo).toNat τ S->Post (.nx τ S)):Post (sF src (je j) c τ S):=by
 unfold sF;rw[hs];refine Ae (s:=nH lo hi) Inv Post (λi τ S d h=>?_) (λτ S h=>⟨rfl,fin τ S h⟩) _ 0 τ S1 rfl h0;have d:i<(hi-lo).toNat:=d;exact⟨.int<|lo+i,_,S,bf d,rfl,step i τ S (by omega) h⟩
def DO{n:Nat}{xs:ad}{g:Tg}{c:Sm}{src:Ic}(hs:src τ S=.ok (jv n xs.length) S1)(Inv:Nat->ad->iM->Prop)(Post:RS->Prop)(h0:Inv 0 τ S1)(hl:∀i τ S,Inv i τ S->iG S n=some xs)
  (step:∀(i:Nat) x τ S,xs[i]?=some x->Inv i τ S->∃τ1 S1,g x τ S=.ok τ1 S1/\((∃τ' S',c τ1 S1=.nx τ' S'/\Inv (i+1) τ' S')\/(∃a S',c τ1 S1=.rt a S'/\Post (.rt a S'))))
  (fin:∀τ S,Inv xs.length τ S->Post (.nx τ S)):Post (sF src g c τ S):=by
 unfold sF;rw[hs];refine Ae (s:=jv n xs.length) Inv Post (λi τ S d h=>?_) (λτ S h=>⟨?_,fin τ S h⟩) _ 0 τ S1 rfl h0
 ·have d:i<xs.length:=d;obtain⟨τ1,S1,e,q⟩:=step i xs[i] τ S (aF d) h;exact⟨xs[i],τ1,S1,by show(iG S n).bind _=_;rw[hl i τ S h];exact aF d,e,q⟩
 ·show(match iG S n with
   | some ys=>decide (ys.length<=xs.length)
   | none=>false)=true
  rw[hl _ τ S h];exact aX<|aL _
@[simp]def mV {c:Ex}{τ:ad}{S S1:iM}{j:Int}(h:c τ S=.ok (.int j) S1)(hb:bnd j):mY c τ S=.ok (nH 0 j) S1:=by
 unfold mY;rw[h];exact kq hb
def BL{c d:Ex}{i j:Int}(h:c τ S=.ok (.int i) S1)(h':d τ S1=.ok (.int j) S2)(hb:bnd i)(hb':bnd j):vQ c d τ S=.ok (nH i j) S2:=by
 unfold vQ;rw[h];show(d τ S1).bind _=_;rw[h'];exact kq ⟨hb,hb'⟩
def jY{c:Ex}{n:Nat}{xs:ad}(h:c τ S=.ok (.ref n) S1)(hl:iG S1 n=some xs):jF c τ S=.ok (jv n xs.length) S1:=by
 unfold jF;rw[h];show opt (iG S1 n) _=_;rw[hl];rfl
theorem r8{s:Src}{g:Tg}{t:Te}{e:Ex}{P:iM->Prop}{T:ad->Prop}(it:Nat->A)(p:Nat->Bool)(f:Nat->A)
  (hget:∀i S,i<s.k->P S->s.get i S=some (it i)) (hfin:∀S,P S->s.fin S=true)
  (step:∀i τ S,i<s.k->T τ->P S->∃τ1 S1 S2,g (it i) τ S=.ok τ1 S1/\t τ1 S1=.ok (p i) S2/\T τ1/\(p i=false->P S2)/\(p i=true->∃S3,e τ1 S2=.ok (f i) S3/\P S3)) :
  ∀k i τ S,k+i=s.k->T τ->P S->∃S',kg s g t e k i τ S=.ok (((List.range' i k).filter p).map f) S'/\P S'
 | 0,i,τ,S,hk,hT,hP=>⟨S,by unfold kg;rw[bf<|hfin S hP];rfl,hP⟩
 | k+1,i,τ,S,hk,hT,hP=>by
  obtain⟨τ1,S1,S2,hg,z,d,B,m⟩:=step i τ S (by omega) hT hP;unfold kg;rw[hget i S (by omega) hP,i8,hg,R.jf,z,R.jf,List.range'_succ,gv]
  cases hp:p i with
  | false=>
   obtain⟨S',h1,j⟩:=r8 it p f hget hfin step k (i+1) τ1 S2 (by omega) d<|B hp;exact⟨S',by simpa using h1,j⟩
  | true=>
   obtain⟨S3,C,q⟩:=m hp;obtain⟨S',h1,j⟩:=r8 it p f hget hfin step k (i+1) τ1 S3 (by omega) d q;refine⟨S',?_,j⟩
   skip
   rw[C,R.jf,h1];rfl
def vO{s:Src}{src:Ic}{t:Te}{e:Ex}{S1:iM}(hs:src τ S=.ok s S1)(it:Nat->A)(p:Nat->Bool)(f:Nat->A)(hget:∀i,i<s.k->s.get i S1=some (it i))(hfin:s.fin S1=true)
  (ht:∀i,i<s.k->t (it i::nL cap τ) S1=.ok (p i) S1) (he:∀i,i<s.k->p i=true->e (it i::nL cap τ) S1=.ok (f i) S1) (hl:s.k<=16777216) :
  jb (none::cap) src (je 0) t e τ S=.ok (.ref S1.length) (S1++[.lst<|((List.range s.k).filter p).map f]):=by
 unfold jb;rw[hs,R.jZ];obtain⟨m,h1,j⟩:=r8 (s:=s) (g:=je 0) (t:=t) (e:=e) (P:=λS=>S=S1) (T:=λd=>∃y,d=y::nL cap τ) it p f (λi S hi h=>by subst h;exact hget i hi) (λS h=>by subst h;exact hfin)
  (λi d S hi ⟨y,hy⟩ h=>by
   subst h hy;exact⟨it i::nL cap τ,S,S,rfl,ht i hi,⟨_,rfl⟩,λ_=>rfl,λhp=>⟨S,he i hi hp,rfl⟩⟩) s.k 0 (nL (none::cap) τ) S1 rfl ⟨_,rfl⟩ rfl
 subst j;rw[h1,R.jf,eZ];refine jE ?_;rw[aH];refine bX (List.length_filter_le _ _) ?_;rw[List.length_range'];exact hl
def vt{α β:Type}(xs:List α)(p:α->Bool)(f:α->β):∀(d:α) ,(((List.range xs.length).filter λi=>p<|xs.getD i d).map λi=>f<|xs.getD i d)=(xs.filter p).map f:=by
 intro d
 induction xs with
 | nil=>rfl
 | cons x xs g=>
  rw[bB,fY,gv,gv];have e:((List.filter (λi=>p<|(x::xs).getD i d)<|List.map Nat.succ<|List.range xs.length).map λi=>f<|(x::xs).getD i d)=(xs.filter p).map f:=by
   rw[fK,bY];rw[<- g];rfl
  show List.map _ (if p x=true then _ else _)=List.map f (if p x=true then _ else _);by_cases hp:p x=true
  ·rw[bf hp,bf hp,bP,bP,e];rfl
  ·rw[bu hp,bu hp,e]
def wZ{lo hi:Int}{src:Ic}{t:Te}{e:Ex}{S1:iM}(hs:src τ S=.ok (nH lo hi) S1)(p:Int->Bool)(f:Int->A)
  (ht:∀k,lo<=k->k<hi->t (.int k::nL cap τ) S1=.ok (p k) S1) (he:∀k,lo<=k->k<hi->p k=true->e (.int k::nL cap τ) S1=.ok (f k) S1) (hl:(hi-lo).toNat<=16777216) :
  jb (none::cap) src (je 0) t e τ S=.ok (.ref S1.length) (S1++[.lst<|((jG lo hi).filter p).map f]):=by
 rw[vO hs (λi=>.int<|lo+i) (λi=>p<|lo+i) (λi=>f<|lo+i) (λi d=>bf d) rfl (λi d=>ht _ () (by have:i<(hi-lo).toNat:=d;lia)) (λi d=>he _ () (by have:i<(hi-lo).toNat:=d;lia)) hl];unfold jG;rw[fK,bY];rfl
@[simp]def I0 {cap:List<|bo}{τ:ad}:nL (none::cap) τ=.unb::nL cap τ:=rfl
@[simp]def IF {cap:List<|bo}{τ:ad}{j:Nat}:nL (some j::cap) τ=τ.getD j .unb::nL cap τ:=rfl
@[simp]def BR {τ:ad}:nL [] τ=[]:=rfl
theorem FG{x:A}:ng (x::xs) 0=some x:=nJ (k:=0) rfl rfl
def N7{x:A}:ng (x::y::xs) 1=some y:=nJ (k:=1) rfl rfl
def zO{ns:ae}{i:Int}{k:Nat}{x:Int}(h:i=k)(hx:ns[k]?=some x):ng (ns.map A.int) i=some (.int x):=nJ h<|by rw[aQ,hx];rfl
def lF{j:Int}(h:-4611686018427387904<=j)(h':j<4611686018427387904):bnd j:=⟨(),()⟩
def BX{i j:Int}(h1:-1000000<=i)(h2:i<=1000000)(h3:-1000000<=j)(h4:j<=1000000)(h5:j-i<=1000):yL i j:=⟨⟨(),(),(),()⟩,()⟩
theorem ints_map:∀(ns:ae),A.ints (ns.map .int)=some ns
 | []=>rfl
 | n::ns=>by show(A.ints<|ns.map .int).map (n::·)=_;rw[ints_map ns];rfl
def yR(xs:ad)(j:Nat)(h:j<xs.length):vf xs (some<|(j:Int)+1) none=xs.drop (j+1):=by
 unfold vf;rw[show((j:Int)+1)=((j+1:Nat):Int)by lia,HT.Nh,HT.Bw,Nat.min_eq_left ()];exact c_<|by rw[cA];exact aL _
theorem vn{n:Nat}:∀(xs ys:ae),sC (sM S<|n+1) (xs.map .int) (ys.map .int)=some (decide<|xs=ys)
 | [],[]=>rfl
 | [],_::_=>rfl
 | _::_,[]=>rfl
 | x::xs,y::ys=>by
  skip
  skip
  show Option.map _ (sC (sM S<|n+1) (xs.map .int)<|ys.map .int)=_;rw[vn xs ys]
  skip
  by_cases h1:x=y<;>by_cases d:xs=ys<;>simp[h1,d]
@[simp]def Ot {S:iM}{x y:Bool}:pO false (.bl x) (.bl y) S=.ok (.bl<|x == y) S:=rfl
@[simp]def N1 {S:iM}{x y:Bool}:pO true (.bl x) (.bl y) S=.ok (.bl<|!(x == y)) S:=rfl
@[simp]def Oq {S:iM}{x y:Int}:pO false (.int x) (.int y) S=.ok (.bl<|x == y) S:=rfl
@[simp]def NQ {S:iM}{x y:Int}:pO true (.int x) (.int y) S=.ok (.bl<|!(x == y)) S:=rfl
@[simp]def Fc {S:iM}:Ol false .jC .jC S=.ok (.bl true) S:=rfl
@[simp]def Dz {S:iM}{xs:ad}:Ol false (.tup xs) .jC S=.ok (.bl false) S:=rfl
@[simp]def F9 {S:iM}{n:Nat}:Ol false (.ref n) .jC S=.ok (.bl false) S:=rfl
@[simp]def AN {S:iM}:Ol true .jC .jC S=.ok (.bl false) S:=rfl
@[simp]def BS {S:iM}{xs:ad}:Ol true (.tup xs) .jC S=.ok (.bl true) S:=rfl
@[simp]def Ca {S:iM}{n:Nat}:Ol true (.ref n) .jC S=.ok (.bl true) S:=rfl
@[simp]def DF {S:iM}{x:A}{c:String}:yp x (.ty c) S=opt (x.kd S) λk=>opt (m9 k c) λb=>.ok (.bl b) S:=rfl
@[simp]def N9 {S:iM}{b:Bool}:A.kd (.bl b) S=some .bl:=rfl
@[simp]def JX {S:iM}{b:Int}:A.kd (.int b) S=some .int:=rfl
@[simp]def HA {S:iM}{b:ad}:A.kd (.tup b) S=some .tup:=rfl
@[simp]def HD {S:iM}:A.kd .jC S=some .jC:=rfl
@[simp]def HR {S:iM}{b:Str}:A.kd (.str b) S=some .str:=rfl
@[simp]def IL {S:iM}{n:Nat}:A.kd (.ref n) S=(iG S n).map λ_=>.lst:=rfl
@[simp]def Lj {S:iM}:newL [] S=.ok (.ref S.length) (S++[.lst []]):=jE<|by simp
@[simp]def Jw {S:iM}{x0:A}:newL [x0] S=.ok (.ref S.length) (S++[.lst [x0]]):=jE<|by simp
@[simp]def LO {S:iM}{x0 x1:A}:newL [x0,x1] S=.ok (.ref S.length) (S++[.lst [x0,x1]]):=jE<|by simp
@[simp]def Jb {S:iM}{x0 x1 x2:A}:newL [x0,x1,x2] S=.ok (.ref S.length) (S++[.lst [x0,x1,x2]]):=jE<|by simp
@[simp]def Iw {S:iM}{x0 x1 x2 x3:A}:newL [x0,x1,x2,x3] S=.ok (.ref S.length) (S++[.lst [x0,x1,x2,x3]]):=jE<|by simp
@[simp]def Ln {S:iM}{x0 x1 x2 x3 x4:A}:newL [x0,x1,x2,x3,x4] S=.ok (.ref S.length) (S++[.lst [x0,x1,x2,x3,x4]]):=jE<|by simp
@[simp]def LN {S:iM}{x0 x1 x2 x3 x4 x5:A}:newL [x0,x1,x2,x3,x4,x5] S=.ok (.ref S.length) (S++[.lst [x0,x1,x2,x3,x4,x5]]):=jE<|by simp
@[simp]def JA {S:iM}{x0 x1 x2 x3 x4 x5 x6:A}:newL [x0,x1,x2,x3,x4,x5,x6] S=.ok (.ref S.length) (S++[.lst [x0,x1,x2,x3,x4,x5,x6]]):=jE<|by simp
@[simp]def CV {S:iM}{x0 x1 x2 x3 x4 x5 x6 x7:A}:newL [x0,x1,x2,x3,x4,x5,x6,x7] S=.ok (.ref S.length) (S++[.lst [x0,x1,x2,x3,x4,x5,x6,x7]]):=jE<|by simp
@[simp]def JD {S:iM}{x0 x1 x2 x3 x4 x5 x6 x7 x8:A}:newL [x0,x1,x2,x3,x4,x5,x6,x7,x8] S=.ok (.ref S.length) (S++[.lst [x0,x1,x2,x3,x4,x5,x6,x7,x8]]):=jE<|by simp
@[simp]def FP {S:iM}{x0 x1 x2 x3 x4 x5 x6 x7 x8 x9:A}:newL [x0,x1,x2,x3,x4,x5,x6,x7,x8,x9] S=.ok (.ref S.length) (S++[.lst [x0,x1,x2,x3,x4,x5,x6,x7,x8,x9]]):=jE<|by simp
theorem mK{α:Type}{n:Nat}{r:R α}(h:n<=16777216):gd (n<=sizeLine) r=r:=kq<|by rw[cO];exact h
def zc{α:Type}{n:Nat}{r:R α}(h:n<16777216):gd (n<sizeLine) r=r:=kq<|by rw[cO];exact h
def N4 {x:A}{xs:ad}:(x::xs).getD 0 .unb=x:=rfl
def Od {x:A}{xs:ad}{n:Nat}:(x::xs).getD (n+1) .unb=xs.getD n .unb:=rfl
def RW {x y:A}{xs:ad}:(x::xs).set 0 y=y::xs:=rfl
def sets {x y:A}{xs:ad}{n:Nat}:(x::xs).set (n+1) y=x::xs.set n y:=rfl
def rep0 {x:A}:List.replicate 0 x=[]:=rfl
def reps {x:A}{n:Nat}:List.replicate (n+1) x=x::List.replicate n x:=rfl
def RL {x:A}{xs ys:ad}:(x::xs)++ys=x::(xs++ys):=rfl
def RO {ys:ad}:[]++ys=ys:=rfl
def vW{S:iM}{n:Nat}{xs ys:ad}(h:iG S n=some xs)(h':iG S m=some ys)(hl:xs.length+ys.length<=16777216):jJ (.ref n) (.ref m) S=.ok (.ref S.length) (S++[.lst<|xs++ys]):=by
 show opt (iG S n) _=_;rw[h,i8,h',i8];exact kq<|by rw[cO];exact hl
abbrev uV (x:A)(S:iM):R A:=bif x.j5 then .no else .ok x S
def rG{x:A}(h:x.j5=false):uV x S=.ok x S:=by unfold uV;rw[h];rfl
def JK {xs:ad}{S:iM}:uV (.tup xs) S=.ok (.tup xs) S:=rfl
def IE {xs:ad}{S:iM}:uV (.frz xs) S=.ok (.frz xs) S:=rfl
def Ik {i:Int}{S:iM}:uV (.int i) S=.ok (.int i) S:=rfl
def Oc {b:Bool}{S:iM}:uV (.bl b) S=.ok (.bl b) S:=rfl
def IQ {s:Str}{S:iM}:uV (.str s) S=.ok (.str s) S:=rfl
def Lp {n:Nat}{S:iM}:uV (.ref n) S=.ok (.ref n) S:=rfl
def LB  {S:iM}:uV (.jC) S=.ok (.jC) S:=rfl
def Jd {i j:Int}{S:iM}:uV (.rng i j) S=.ok (.rng i j) S:=rfl
def II {s:Str}{S:iM}:uV (.exn s) S=.ok (.exn s) S:=rfl
def UJ {x0:A}{xs:ad}{S:iM}:iE 0 (x0::xs) S=uV x0 S:=nU
def UP {x0 x1:A}{xs:ad}{S:iM}:iE 1 (x0::x1::xs) S=uV x1 S:=nU
def UU {x0 x1 x2:A}{xs:ad}{S:iM}:iE 2 (x0::x1::x2::xs) S=uV x2 S:=nU
def UM {x0 x1 x2 x3:A}{xs:ad}{S:iM}:iE 3 (x0::x1::x2::x3::xs) S=uV x3 S:=nU
def Vi {x0 x1 x2 x3 x4:A}{xs:ad}{S:iM}:iE 4 (x0::x1::x2::x3::x4::xs) S=uV x4 S:=nU
def UN {x0 x1 x2 x3 x4 x5:A}{xs:ad}{S:iM}:iE 5 (x0::x1::x2::x3::x4::x5::xs) S=uV x5 S:=nU
def U3 {x0 x1 x2 x3 x4 x5 x6:A}{xs:ad}{S:iM}:iE 6 (x0::x1::x2::x3::x4::x5::x6::xs) S=uV x6 S:=nU
def U6 {x0 x1 x2 x3 x4 x5 x6 x7:A}{xs:ad}{S:iM}:iE 7 (x0::x1::x2::x3::x4::x5::x6::x7::xs) S=uV x7 S:=nU
def UO {x0 x1 x2 x3 x4 x5 x6 x7 x8:A}{xs:ad}{S:iM}:iE 8 (x0::x1::x2::x3::x4::x5::x6::x7::x8::xs) S=uV x8 S:=nU
def US {a x0:A}{xs:ad}{S:iM}:je 0 a (x0::xs) S=.ok (a::xs) S:=rfl
def Vg {a x0 x1:A}{xs:ad}{S:iM}:je 1 a (x0::x1::xs) S=.ok (x0::a::xs) S:=rfl
def UR {a x0 x1 x2:A}{xs:ad}{S:iM}:je 2 a (x0::x1::x2::xs) S=.ok (x0::x1::a::xs) S:=rfl
def U0 {a x0 x1 x2 x3:A}{xs:ad}{S:iM}:je 3 a (x0::x1::x2::x3::xs) S=.ok (x0::x1::x2::a::xs) S:=rfl
def U8 {a x0 x1 x2 x3 x4:A}{xs:ad}{S:iM}:je 4 a (x0::x1::x2::x3::x4::xs) S=.ok (x0::x1::x2::x3::a::xs) S:=rfl
def Vh {a x0 x1 x2 x3 x4 x5:A}{xs:ad}{S:iM}:je 5 a (x0::x1::x2::x3::x4::x5::xs) S=.ok (x0::x1::x2::x3::x4::a::xs) S:=rfl
def UL {a x0 x1 x2 x3 x4 x5 x6:A}{xs:ad}{S:iM}:je 6 a (x0::x1::x2::x3::x4::x5::x6::xs) S=.ok (x0::x1::x2::x3::x4::x5::a::xs) S:=rfl
def UQ {a x0 x1 x2 x3 x4 x5 x6 x7:A}{xs:ad}{S:iM}:je 7 a (x0::x1::x2::x3::x4::x5::x6::x7::xs) S=.ok (x0::x1::x2::x3::x4::x5::x6::a::xs) S:=rfl
def U1 {a x0 x1 x2 x3 x4 x5 x6 x7 x8:A}{xs:ad}{S:iM}:je 8 a (x0::x1::x2::x3::x4::x5::x6::x7::x8::xs) S=.ok (x0::x1::x2::x3::x4::x5::x6::x7::a::xs) S:=rfl
def i6:type_of% (anI @R.jZ<|anI @R.Er<|anI @R.jf<|anI @RS.of_ok<|anI @RS.NR<|anI @i8<|anI @Gb<|anI @UJ<|anI @UP<|anI @UU<|anI @UM<|anI @Vi<|anI @UN<|anI @U3<|anI @U6<|anI @UO<|anI @JK<|anI @IE<|anI @Ik<|anI @Oc<|anI @IQ<|anI @Lp<|anI @LB<|anI @Jd<|anI @II<|anI @E5<|anI @FY<|anI @FN<|anI @K9<|anI @Et<|anI @FD<|anI @F3<|anI @E3<|anI @FW<|anI @Om<|anI @Dv<|anI @J9<|anI @FU<|anI @Oj<|anI @IT<|anI @Fw<|anI @EM<|anI @Li<|anI @DX<|anI @Fe<|anI @FE<|anI @HJ<|anI @Lh<|anI @F0<|anI @Jp<|anI @BY<|anI @Ea<|anI @KR<|anI @DR<|anI @B_<|anI @D9<|anI @DQ<|anI @A8<|anI @K5<|anI @I_<|anI @Oi<|anI @N2<|anI @Hv<|anI @Cm<|anI @DL<|anI @Bh<|anI @KQ<|anI @Ek<|anI @lst?_ref<|anI @RS.Kv<|anI @RS.KD<|anI @RS.HV<|anI @RS.Ke<|anI @RS.LC<|anI @EN<|anI @Fg<|anI @zm<|anI @A9<|anI @Be<|anI @Ff<|anI @A2<|anI @KH<|anI @Eh<|anI @US<|anI @Vg<|anI @UR<|anI @U0<|anI @U8<|anI @Vh<|anI @UL<|anI @UQ<|anI @U1<|anI @Km<|anI @Jc<|anI @Ji<|anI @HL<|anI @Ih<|anI @E7<|anI @D3<|anI @AQ<|anI @RS.IP<|anI @RS.Lr<|anI @RS.KI<|anI @LF<|anI @Lf<|anI @HG<|anI @NY<|anI @NJ<|anI @NX<|anI @NT<|anI @Oa<|anI @La<|anI @JF<|anI @Lu<|anI @Jr<|anI @Hr<|anI @Ir<|anI @FL<|anI @Eg<|anI @EY<|anI @E6<|anI @zM<|anI @NG<|anI @N5<|anI @N8<|anI @JQ<|anI @Io<|anI @DU<|anI @Eb<|anI @Dw<|anI @Bu<|anI @BD<|anI @JT<|anI @LA<|anI @NZ<|anI @xV<|anI @JS<|anI @DS<|anI @iR<|anI @I0<|anI @IF<|anI @BR<|anI @Ot<|anI @N1<|anI @Oq<|anI @NQ<|anI @Fc<|anI @Dz<|anI @F9<|anI @AN<|anI @BS<|anI @Ca<|anI @DF<|anI @N9<|anI @JX<|anI @HA<|anI @HD<|anI @HR<|anI @IL<|anI @Lj<|anI @Jw<|anI @LO<|anI @Jb<|anI @Iw<|anI @Ln<|anI @LN<|anI @JA<|anI @CV<|anI @JD<|anI @FP<|anI @N4<|anI @Od<|anI @RW<|anI @sets<|anI @rep0<|anI @reps<|anI @RL<|anI @RO<|anI @wJ<|anI @ET<|anI @JU<|anI @IB<|anI @NK<|anI @NF<|anI @K6<|anI @Lc<|anI @zx<|anI @Cj<|anI @HC<|anI @El<|anI @Ig<|anI @Dy<|anI @J_<|anI @NW<|anI @NC<|anI @EW<|anI @DA<|anI @Jy<|anI @A1<|anI @F4<|anI @Lx<|anI @KL<|anI @HS<|anI @Iv<|@KG):=anI @R.jZ<|anI @R.Er<|anI @R.jf<|anI @RS.of_ok<|anI @RS.NR<|anI @i8<|anI @Gb<|anI @UJ<|anI @UP<|anI @UU<|anI @UM<|anI @Vi<|anI @UN<|anI @U3<|anI @U6<|anI @UO<|anI @JK<|anI @IE<|anI @Ik<|anI @Oc<|anI @IQ<|anI @Lp<|anI @LB<|anI @Jd<|anI @II<|anI @E5<|anI @FY<|anI @FN<|anI @K9<|anI @Et<|anI @FD<|anI @F3<|anI @E3<|anI @FW<|anI @Om<|anI @Dv<|anI @J9<|anI @FU<|anI @Oj<|anI @IT<|anI @Fw<|anI @EM<|anI @Li<|anI @DX<|anI @Fe<|anI @FE<|anI @HJ<|anI @Lh<|anI @F0<|anI @Jp<|anI @BY<|anI @Ea<|anI @KR<|anI @DR<|anI @B_<|anI @D9<|anI @DQ<|anI @A8<|anI @K5<|anI @I_<|anI @Oi<|anI @N2<|anI @Hv<|anI @Cm<|anI @DL<|anI @Bh<|anI @KQ<|anI @Ek<|anI @lst?_ref<|anI @RS.Kv<|anI @RS.KD<|anI @RS.HV<|anI @RS.Ke<|anI @RS.LC<|anI @EN<|anI @Fg<|anI @zm<|anI @A9<|anI @Be<|anI @Ff<|anI @A2<|anI @KH<|anI @Eh<|anI @US<|anI @Vg<|anI @UR<|anI @U0<|anI @U8<|anI @Vh<|anI @UL<|anI @UQ<|anI @U1<|anI @Km<|anI @Jc<|anI @Ji<|anI @HL<|anI @Ih<|anI @E7<|anI @D3<|anI @AQ<|anI @RS.IP<|anI @RS.Lr<|anI @RS.KI<|anI @LF<|anI @Lf<|anI @HG<|anI @NY<|anI @NJ<|anI @NX<|anI @NT<|anI @Oa<|anI @La<|anI @JF<|anI @Lu<|anI @Jr<|anI @Hr<|anI @Ir<|anI @FL<|anI @Eg<|anI @EY<|anI @E6<|anI @zM<|anI @NG<|anI @N5<|anI @N8<|anI @JQ<|anI @Io<|anI @DU<|anI @Eb<|anI @Dw<|anI @Bu<|anI @BD<|anI @JT<|anI @LA<|anI @NZ<|anI @xV<|anI @JS<|anI @DS<|anI @iR<|anI @I0<|anI @IF<|anI @BR<|anI @Ot<|anI @N1<|anI @Oq<|anI @NQ<|anI @Fc<|anI @Dz<|anI @F9<|anI @AN<|anI @BS<|anI @Ca<|anI @DF<|anI @N9<|anI @JX<|anI @HA<|anI @HD<|anI @HR<|anI @IL<|anI @Lj<|anI @Jw<|anI @LO<|anI @Jb<|anI @Iw<|anI @Ln<|anI @LN<|anI @JA<|anI @CV<|anI @JD<|anI @FP<|anI @N4<|anI @Od<|anI @RW<|anI @sets<|anI @rep0<|anI @reps<|anI @RL<|anI @RO<|anI @wJ<|anI @ET<|anI @JU<|anI @IB<|anI @NK<|anI @NF<|anI @K6<|anI @Lc<|anI @zx<|anI @Cj<|anI @HC<|anI @El<|anI @Ig<|anI @Dy<|anI @J_<|anI @NW<|anI @NC<|anI @EW<|anI @DA<|anI @Jy<|anI @A1<|anI @F4<|anI @Lx<|anI @KL<|anI @HS<|anI @Iv<|@KG
def bools:(∀b:Bool,cond false b b=b)/\(∀(α:Type) (x y:α),cond false x y=y)/\(∀(α:Type) (x y:α),cond true x y=x):=⟨λ_=>rfl,λ_ _ _=>rfl,λ_ _ _=>rfl⟩
def jI:(∀(x:Str) (xs:am),(x::xs).length=xs.length+1)/\([]:am).length=0/\(∀(x:A) (xs:ad),(x::xs).length=xs.length+1)/\([]:ad).length=0:=⟨λ_ _=>rfl,rfl,λ_ _=>rfl,rfl⟩
section
variable {τ:ad}{S:iM}
def EU {f:ad->iM->R A}{d:qJ}:HU f d τ S=(d τ S).bind f:=rfl
abbrev UI (c:Str):Unit->iM->RS:=λ_ S1=>.ex c S1
def HB {c:Str}{u:Unit}:UI c u S=.ex c S:=rfl
def zd {c:Str}{ps:List<|Str ⊕ Ex}:Dr c ps τ S=RS.of (Mt ps τ S) (UI c):=rfl
def Eu:Mt [] τ S=.ok Unit.unit S:=rfl
def FZ {x:Str}{ps:List<|Str ⊕ Ex}:Mt (.inl x::ps) τ S=Mt ps τ S:=rfl
abbrev Vy (ps:List<|Str ⊕ Ex)(τ:ad):A->iM->R Unit:=λv S1=>match v with
 | .int i=>gd (i.natAbs.log2<64) (Mt ps τ S1)
 | _=>.no
def E9 {e:Ex}{ps:List<|Str ⊕ Ex}:Mt (.inr e::ps) τ S=(e τ S).bind (Vy ps τ):=rfl
abbrev RS.try (i n:Nat)(cs:am)(d:Sm):RS->RS
 | .ex x S1=>if x∈cs then Mv i (d ((List.replicate n .unb).set i<|.exn x) S1)else .no
 | r=>r
def Ey {i n:Nat}{cs:am}{c d:Sm}:Q9 i n cs c d τ S=RS.try i n cs d (c τ S):=by
 unfold Q9 RS.try;cases c τ S<;>rfl
def Ju {i n:Nat}{cs:am}{d:Sm}:RS.try i n cs d (.nx τ S)=.nx τ S:=rfl
def Ie {i n:Nat}{cs:am}{d:Sm}{a:A}:RS.try i n cs d (.rt a S)=.rt a S:=rfl
def JI {i n:Nat}{x:Str}{cs:am}{d:Sm}:RS.try i n (x::cs) d (.ex x S)=Mv i (d ((List.replicate n .unb).set i<|.exn x) S):=bf<|.head _
def JZ {i:Nat}{a:A}:Mv i (.rt a S)=.rt a S:=rfl
def JY {i:Nat}:Mv i (.nx τ S)=.nx (τ.set i .unb) S:=rfl
abbrev RB (f:Str->bj):A->iM->R A:=λv S1=>match v with
 | .exn x=>opt (f x) λb=>.ok (.bl b) S1
 | _=>.no
def Ed {f:Str->bj}{c:Ex}:uZ f c τ S=(c τ S).bind (RB f):=rfl
def Lz {x:Str}{b:Bool}{tb:List<|Str×Bool}:RB (GO ((x,b)::tb)) (.exn x) S=.ok (.bl b) S:=by
 show opt (List.lookup x ((x,b)::tb)) _=_;rw[dQ,cY];rfl
abbrev R.Jt {α β:Type}(r:R α)(f:α->iM->R β):R β:=match r with
 | .ok a S=>f a S
 | _=>.no
def Cb {α β:Type}{a:α}{f:α->iM->R β}:R.Jt (.ok a S) f=f a S:=rfl
def FJ {f:ad->iM->R A}{d:qJ}:Jh f d τ S=R.Jt (d τ S) f:=by unfold Jh R.Jt;cases d τ S<;>rfl
abbrev RS.Um {α:Type}(r:R α)(f:α->iM->RS):RS:=match r with
 | .ok a S=>f a S
 | _=>.no
def Kx {α:Type}{a:α}{f:α->iM->RS}:RS.Um (.ok a S) f=f a S:=rfl
def EG {t:Te}{c d:Sm}:Rv t c d τ S=RS.Um (t τ S) (SM c d τ):=by
 unfold Rv RS.Um
 cases t τ S with
 | ok b S1=>cases b<;>rfl
 | ex _ _=>rfl
 | no=>rfl
abbrev RS.Ho (i:Nat)(cs:am)(d:Sm)(τ:ad):RS->RS
 | .ex x S1=>if x∈cs then Mv i (d (τ.set i<|.exn x) S1)else .no
 | r=>r
def AJ {i:Nat}{cs:am}{c d:Sm}:yQ i cs c d τ S=RS.Ho i cs d τ (c τ S):=by
 unfold yQ RS.Ho;cases c τ S<;>rfl
def Ej {i:Nat}{cs:am}{d:Sm}{τ':ad}:RS.Ho i cs d τ (.nx τ' S)=.nx τ' S:=rfl
def Fi {i:Nat}{cs:am}{d:Sm}{a:A}:RS.Ho i cs d τ (.rt a S)=.rt a S:=rfl
def D0 {i:Nat}{x:Str}{cs:am}{d:Sm}:RS.Ho i (x::cs) d τ (.ex x S)=Mv i (d (τ.set i<|.exn x) S):=bf<|.head _
def Bm:A.Nl []=some []:=rfl
def zK {b:Bool}{xs:ad}:A.Nl (.bl b::xs)=(A.Nl xs).map (b::·):=rfl
end
def oR:type_of% (anI @EU<|anI @zd<|anI @HB<|anI @Eu<|anI @FZ<|anI @E9<|anI @Ey<|anI @Ju<|anI @Ie<|anI @JI<|anI @JZ<|anI @JY<|anI @Ed<|anI @Lz<|anI @Bm<|anI @zK<|anI @Cb<|anI @FJ<|anI @Kx<|anI @EG<|anI @AJ<|anI @Ej<|anI @Fi<|anI @D0<|trivial):=anI @EU<|anI @zd<|anI @HB<|anI @Eu<|anI @FZ<|anI @E9<|anI @Ey<|anI @Ju<|anI @Ie<|anI @JI<|anI @JZ<|anI @JY<|anI @Ed<|anI @Lz<|anI @Bm<|anI @zK<|anI @Cb<|anI @FJ<|anI @Kx<|anI @EG<|anI @AJ<|anI @Ej<|anI @Fi<|anI @D0<|trivial
end Am
namespace Am
open PySem PySem.Spec PyProof.Rows L2
abbrev Df (K:aq)(x:Str)(st:aE):Prop:=∃(f:aj) (fd:FuncData),PySem.W.nsIn K mainGlobals x=some (some<|.ref f)/\Fun K x x st f fd
inductive En (P:ah) (w:af) (K:aq) (mg:Str->be) (base:ak):Prop
 | mk (h:ak) (X:K.In h) (G:h.Ns mainGlobals mg)
section
variable {P:ah}{w:af}{K:aq}{mg:Str->be}{base:ak}{x:Str}{st:aE}{ps:am}{k:Nat}{F:ad->iM->R A}
def En.at(E:En P w K mg base){f:aj}(h:PySem.W.nsIn K mainGlobals x=some (some<|.ref f)):mg x=some (.ref f):=by
 obtain⟨_,X,G⟩:=E;exact cM X G h
def Df.of{f:aj}{kV pm ct:aa}(a:PySem.W.nsIn K mainGlobals x=some (some<|.ref f))(l:K.lookup f=some ⟨oc,od,.func<|PySem.W.fnOf x x (r_ st) (lN st) (iU st) .none kV doc pm an cdv ct,osl⟩)(c:PySem.W.codeIn K cdv x=true)(k:PySem.W.keepIn K (.ref f)=true):Df K x st:=⟨f,_,a,Qx l c k⟩
meta abbrev Bi (x:Str)(st:aE)(ps:am):Prop:=∀us:ar,us.length=ps.length->∀(kV d g:aa) (j:Option aj) (f ct:aa),bindArgs (PySem.W.fnOf x x (r_ st) (lN st) (iU st) .none kV d g j f ct) ⟨us,[]⟩=pure (ps.zip us)
def Df.get(d:Df K x st)(E:En P w K mg base)(b:Bi x st ps):∃f fd,Fun K x x st f fd/\mg x=some (.ref f)/\PySem.W.keepIn K (.ref f)=true/\Binds K fd ps []:=by
 obtain⟨f,fd,a,F⟩:=d;exact⟨f,fd,F,E.at a,F.kp,F.binds λkV j k m g ct us q=>b us q kV j k m g ct⟩
def Df.kA(d:Df K x st)(E:En P w K mg base)(h:∀{f fd},Fun K x x st f fd->FnOk P w K mg base qG k f fd ps (qR K ps.length F))(b:Bi x st ps):qU P w K mg base k x ps F:=by
 obtain⟨f,fd,a,c,e,g⟩:=d.get E b;exact⟨f,fd,h a,c,e,g⟩
def Df.kX(d:Df K x st)(E:En P w K mg base)(h:∀{f fd},Fun K x x st f fd->FnOk P w K mg base (Hj P w) k f fd ps (QY K ps.length F))(b:Bi x st ps):PZ P w K mg base k x ps F:=by
 obtain⟨f,fd,a,c,e,g⟩:=d.get E b;exact⟨f,fd,h a,c,e,g⟩
def Df.kH(d:Df K x st)(E:En P w K mg base)(h:∀{f fd},Fun K x x st f fd->FnOkH P w K mg base k f fd ps (qR K ps.length F))(b:Bi x st ps):QD P w K mg base k x ps F:=by
 obtain⟨f,fd,a,c,e,g⟩:=d.get E b;exact⟨f,fd,h a,c,e,g⟩
end
section
variable {X:Cx}{pos p:Pos}{e1 e2 e3:aC}{x p1 p2 p3:Str}{k K0:Nat}{F:ad->iM->R A}{c1 c2 c3:Ex}
def Co(G:qU X.prog X.w X.K X.mg X.base k x [p1] F)(hr:Room K0 X.A)(h1:AE X e1 c1)(hk:k<=K0:=by decide)(hg:Gl X x:=by rfl)(hdb:(x == ("__debug__" : Str))=false:=by decide)(s1:starEach [e1] X.env=(false,eval e1 X.env)::starEach [] X.env:=by rfl)(hp:(backTo pos<|starEach [] X.env).any (·.1)=false:=by rfl):AE X (.Call (.Name x p) [e1] [] pos) (eFn F<|iD c1 iJ):=Ij G (hr.mono hk) (iF h1 iH s1) (kJ rZ) hg hdb s1 hp
def qQ(G:qU X.prog X.w X.K X.mg X.base k x [p1,p2] F)(hr:Room K0 X.A)(h1:AE X e1 c1)(h2:AE X e2 c2)(hk:k<=K0:=by decide)(hg:Gl X x:=by rfl)(hdb:(x == ("__debug__" : Str))=false:=by decide)(s1:starEach [e1,e2] X.env=(false,eval e1 X.env)::starEach [e2] X.env:=by rfl)(s2:starEach [e2] X.env=(false,eval e2 X.env)::starEach [] X.env:=by rfl)(hp:(backTo pos<|starEach [e2] X.env).any (·.1)=false:=by rfl):AE X (.Call (.Name x p) [e1,e2] [] pos) (eFn F<|iD c1<|iD c2 iJ):=Ij G (hr.mono hk) (iF h1 (iF h2 iH s2) s1) (kJ<|kJ rZ) hg hdb s1 hp
def VA(G:qU X.prog X.w X.K X.mg X.base k x [p1,p2,p3] F)(hr:Room K0 X.A)(h1:AE X e1 c1)(h2:AE X e2 c2)(h3:AE X e3 c3)(hk:k<=K0:=by decide)(hg:Gl X x:=by rfl)(hdb:(x == ("__debug__" : Str))=false:=by decide)(s1:starEach [e1,e2,e3] X.env=(false,eval e1 X.env)::starEach [e2,e3] X.env:=by rfl)(s2:starEach [e2,e3] X.env=(false,eval e2 X.env)::starEach [e3] X.env:=by rfl)(s3:starEach [e3] X.env=(false,eval e3 X.env)::starEach [] X.env:=by rfl)(hp:(backTo pos<|starEach [e2,e3] X.env).any (·.1)=false:=by rfl):AE X (.Call (.Name x p) [e1,e2,e3] [] pos) (eFn F<|iD c1<|iD c2<|iD c3 iJ):=Ij G (hr.mono hk) (iF h1 (iF h2 (iF h3 iH s3) s2) s1) (kJ<|kJ<|kJ rZ) hg hdb s1 hp
def U_(G:PZ X.prog X.w X.K X.mg X.base k x [p1,p2] F)(hr:Room K0 X.A)(h1:AE X e1 c1)(h2:AE X e2 c2)(hk:k<=K0:=by decide)(hg:Gl X x:=by rfl)(hdb:(x == ("__debug__" : Str))=false:=by decide)(s1:starEach [e1,e2] X.env=(false,eval e1 X.env)::starEach [e2] X.env:=by rfl)(s2:starEach [e2] X.env=(false,eval e2 X.env)::starEach [] X.env:=by rfl)(hp:(backTo pos<|starEach [e2] X.env).any (·.1)=false:=by rfl):AE X (.Call (.Name x p) [e1,e2] [] pos) (HU F<|iD c1<|iD c2 iJ):=Qy G (hr.mono hk) (iF h1 (iF h2 iH s2) s1) (kJ<|kJ rZ) hg hdb s1 hp
def vK{N P:am}{sc:Scope}(a:sc.kind=.function)(b:sc.isCoroutine=false)(c:sc.isGenerator=false)(h:N.Nodup/\N.take P.length=P/\(∀x∈P,sc.names.lookup x=some .local\/sc.names.lookup x=some .cell)/\∀y∈sc.names,y.2≠.free):FnScope N P sc:=⟨a,b,c,h.1,h.2.1,h.2.2.1,h.2.2.2⟩
end
abbrev rT (S:iM)(n:Nat):Option (List<|Int×A):=match S[n]? with
 | some (.pW xs)=>some xs
 | _=>none
def oZ{n:Nat}(h:rT S n=some xs):S[n]?=some (.pW xs):=by
 unfold rT at h;split at h
 ·rename_i e;cases h;exact e
 ·cases h
def uI{S:iM}{n:Nat}(h:S[n]?=some (.pW xs)):rT S n=some xs:=by
 unfold rT;rw[h]
abbrev mj (kvs:List<|Int×A)(k:Int):Option A:=(kvs.find? λd=>decide<|d.1=k).map (·.2)
abbrev CJ (kvs:List<|Int×A)(k:Int)(v:A):List (Int×A):=
 if (mj kvs k).isSome=true then kvs.map (λd=>if d.1=k then(d.1,v)else d)else kvs++[(k,v)]
section
variable {K:aq}{ρ:ba}{H:Hp}
def G6{p:Int×A}{r:List<|Int×A}{k:Int}(e:p.1=k):mj (p::r) k=some p.2:=by simp[mj,dm,e]
def GC{p:Int×A}{r:List<|Int×A}{k:Int}(e:¬p.1=k):mj (p::r) k=mj r k:=by simp[mj,dm,e]
def Sb{a b:Int}(e:(Sum.inl a:Key)=Sum.inl b):a=b:=by injection e
theorem DI.look:∀{kvs:List<|Int×A}{ks:List<|Key×V}(k:Int),DI K ρ H kvs ks->(mj kvs k).isSome=(uE ks (Sum.inl k:Key)).isSome/\∀x,mj kvs k=some x->∃v,uE ks (Sum.inl k:Key)=some v/\AV K ρ H x v
 | [],[],k,_=>⟨rfl,λx h=>nomatch h⟩
 | p::r,q::r',k,⟨⟨e,a⟩,t⟩=>by
  by_cases c:p.1=k
  ·have d:q.1=(Sum.inl k:Key):=by rw[e,c]
   rw[G6 c,uO d];exact⟨rfl,λx h=>by cases h;exact⟨_,rfl,a⟩⟩
  ·have d:¬q.1=(Sum.inl k:Key):=λz=>c<|Sb<|e.symm.trans z;rw[GC c,uN d];exact DI.look k t
theorem DI.repl{x:A}{v:V}(h:AV K ρ H x v)(k:Int):∀{kvs:List<|Int×A}{ks:List<|Key×V},DI K ρ H kvs ks->DI K ρ H (kvs.map λkv=>if kv.1=k then(kv.1,x)else kv) (ks.map λkv=>if kv.1=(Sum.inl k:Key)then(kv.1,v)else kv)
 | [],[],_=>trivial
 | p::r,q::r',⟨⟨e,a⟩,t⟩=>by
  refine⟨?_,DI.repl h k t⟩;dsimp only;by_cases c:p.1=k
  ·rw[bf c,bf<|by rw[e,c]];exact⟨e,h⟩
  ·rw[bu c,bu λz=>c<|Sb<|e.symm.trans z];exact⟨e,a⟩
theorem DI.snoc{x:A}{v:V}(h:AV K ρ H x v)(k:Int):∀{kvs:List<|Int×A}{ks:List<|Key×V},DI K ρ H kvs ks->DI K ρ H (kvs++[(k,x)]) (ks++[(Sum.inl k,v)])
 | [],[],_=>⟨⟨rfl,h⟩,trivial⟩
 | p::r,q::r',⟨a,t⟩=>⟨a,DI.snoc h k t⟩
def DI.put{x:A}{v:V}(h:AV K ρ H x v)(k:Int)(d:DI K ρ H kvs ks):DI K ρ H (CJ kvs k x) (putK ks (Sum.inl k:Key) v):=by
 unfold CJ putK;rw[yh,<- (d.look k).1];by_cases c:(mj kvs k).isSome=true
 ·rw[bf c,bf c];exact DI.repl h k d
 ·rw[bu c,bu c];exact DI.snoc h k d
def DI.length:∀{kvs:List<|Int×A}{ks:List<|Key×V},DI K ρ H kvs ks->kvs.length=ks.length
 | [],[],_=>rfl
 | _::_,_::_,⟨_,t⟩=>b_ (·+1) t.length
def Rel.pW{n:Nat}{a:aj}(R:Rel K ρ H S)(ha:ρ[n]?=some a)(hS:S[n]?=some (.pW xs)):∃vs,H a=some (.dK vs)/\DI K ρ H xs vs:=R.at n a _ ha hS
def Rel.UH{S:iM}{p:aj}(R:Rel K ρ H S)(hp:H p=none)(r:DI K ρ H xs vs):Ext ρ (ρ++[p]) H (upd H p<|.dK vs)/\Rel K (ρ++[p]) (upd H p<|.dK vs) (S++[.pW xs])/\(ρ++[p])[S.length]?=some p:=by
 have ex:Ext ρ (ρ++[p]) H (upd H p<|.dK vs):=⟨⟨fN _ _,λa u _ h=>by rw[iS<|iZ h hp];exact h⟩,λa u h _=>by rw[iS<|iZ h hp];exact h,λa h=>by
  rcases bT.mp h with z|z
  ·exact .inl z
  ·have e:a=p:=by simpa using z
   rw[e];exact .inr hp⟩
 have np:p∉ρ:=R.JW hp;have last:(ρ++[p])[S.length]?=some p:=by rw[<- R.len];simp
 refine⟨ex,⟨by simp[R.len],?_,?_⟩,last⟩
 ·rw[dc];refine⟨R.nd,by simp,λa g b hb e=>?_⟩;have:b=p:=by simpa using hb
  exact np<|by rw[<- this,<- e];exact g
 ·intro n a o h1 d;by_cases hn:n<S.length
  ·rw[aT<|by rw[R.len];exact hn]at h1;rw[aT hn]at d;have na:a≠p:=λz=>np (by rw[<- z];exact bg h1);have:=R.at n a o h1 d
   cases o with
   | lst ys=>obtain⟨f,e,q⟩:=this;exact⟨f,by rw[iS na];exact e,q.ext ex⟩
   | dct _|pW _|dcp _=>obtain⟨f,e,q⟩:=this;exact⟨f,by rw[iS na];exact e,q.ext ex⟩
   | ins _ _=>obtain⟨k,j,e⟩:=this;exact⟨k,j,by rw[iS na];exact e⟩
  ·have e:n=S.length:=by
    have:=(aJ.mp d).1;simp at this
    lia
   subst e;rw[last]at h1
   cases h1
   simp at d;subst d;exact⟨vs,jy,r.ext ex⟩
def Rel.CJ{S:iM}{n:Nat}{a:aj}(R:Rel K ρ H S)(ha:ρ[n]?=some a)(hS:S[n]?=some (.pW xs))(r:DI K ρ H ys ws):Ext ρ ρ H (upd H a<|.dK ws)/\Rel K ρ (upd H a<|.dK ws) (S.set n<|.pW ys):=by
 obtain⟨vs,e,_⟩:=R.at n a _ ha hS;have ex:Ext ρ ρ H (upd H a<|.dK ws):=⟨⟨dR _,λb u i h=>by
  have:b≠a:=by
   intro z;subst z;rw[e]at h;cases h;exact i
  rw[iS this];exact h⟩,λb u h n=>by
  rw[iS λz=>n<|by rw[z];exact bg ha];exact h,λ_ h=>.inl h⟩
 refine⟨ex,by rw[aZ];exact R.len,R.nd,λm b o h1 g=>?_⟩;by_cases hm:m=n
 ·subst hm;rw[ha]at h1;cases h1;rw[bK (aJ.mp hS).1]at g
  cases g
  exact⟨ws,jy,r.ext ex⟩
 ·rw[bN<|cQ hm]at g;have nb:b≠a:=λz=>by
   subst z;obtain⟨B,e1⟩:=aJ.mp ha;obtain⟨t,e2⟩:=aJ.mp h1;exact hm<|(iw R.nd).mp<|e2.trans e1.symm
  have:=R.at m b o h1 g
  cases o with
  | lst ys=>obtain⟨d,f,q⟩:=this;exact⟨d,by rw[iS nb];exact f,q.ext ex⟩
  | dct _|pW _|dcp _=>obtain⟨d,f,q⟩:=this;exact⟨d,by rw[iS nb];exact f,q.ext ex⟩
  | ins _ _=>obtain⟨k,j,f⟩:=this;exact⟨k,j,by rw[iS nb];exact f⟩
end
section
variable {X:Cx}{pos:Pos}{a b:aC}
abbrev G8 (x y:A)(S:iM):R A:=match x,y with
 | .ref n,.int k=>opt (rT S n) λkvs=>opt (mj kvs k) λv=>.ok v S
 | _,_=>.no
def GY{x:A}{P:A->iM->Prop}{E:Str->iM->Prop}(h:(G8 x y S).post P E):∃n k kvs v,x=.ref n/\y=.int k/\rT S n=some kvs/\mj kvs k=some v/\P v S:=by
 unfold G8 at h;split at h
 ·obtain⟨kvs,h1,h⟩:=iV h;obtain⟨v,d,h⟩:=iV h;exact⟨_,_,kvs,v,rfl,rfl,h1,d,h⟩
 ·exact h.elim
def RJ(hu:X.A.units+64<cLine):PK X (r2 X G8):=λj f pins s σ H x y v u Q I rx ry ⟨ρ,S,a,b,R,va,vb,h⟩ hs=>by
 obtain⟨n,k,kvs,z,m,hb,hn,t,hP⟩:=GY h;subst m hb
 cases vb
 cases va with
 | @ref p _ hp=>
  obtain⟨ks,e,d⟩:=R.pW hp<|oZ hn;obtain⟨w,hw,q⟩:=(d.look k).2 z t;have g:CY H p (kV<|Sum.inl k) (uE ks<|Sum.inl k):=CY.k e;rw[hw]at g;exact MQ () j f pins s σ H _ _ v u Q I rx ry ⟨p,w,rfl,g,hP _ _ _ .refl R q⟩ hs
def P_(hu:X.A.units+64<cLine){ca cb:Ex}(ha:AE X a ca)(hb:AE X b cb)(hs:Ax b:=by exact λ_ _=>rfl):AE X (.Subscript a b pos) (iK G8 ca cb):=PE.imp (Of (RJ hu) ha hb hs) λσ H Q h=>uh h
abbrev sP (o i v:A)(S:iM):R Unit:=match o,i with
 | .ref n,.int k=>opt (rT S n) λkvs=>gd (kvs.length<sizeLine) (.ok Unit.unit<|S.set n<|.pW<|CJ kvs k v)
 | _,_=>.no
end
section
@[irreducible] noncomputable def big:Nat:=2 ^ 4096
end
abbrev kA (p:Int×Int):A:=.ktu [.int p.1,.int p.2]
end Am
namespace L2
open PySem PySem.Spec PyProof.Rows
section
variable {prog:ah}{w:af}{A:au}{R:Result->aA->Prop}{s:aA}
def sD{iter:aC}{rest:List Comprehension}{env:Env}
  (h0:codeAny (model prog w) A (.compLoop (.DictComp ek ev (⟨tg,iter,ifs,0⟩::rest) scope pos) 0 it acc env) R s)
  (h:wpAny (model prog w) A (pyIter it) (λit' s'=>codeAny (model prog w) A (.compLoop (.DictComp ek ev (⟨tg,iter,ifs,0⟩::rest) scope pos) 0 it' acc env) R s')
   (notedBy (model prog w) A env λx s'=>R (.error x) s') s) :
  codeAny (model prog w) A (.compStart (.DictComp ek ev (⟨tg,iter,ifs,0⟩::rest) scope pos) 0 it acc env) R s:=by
 refine codeAny_of_tree ?_;show wpAny _ _ ((compStart (.DictComp ek ev (⟨tg,iter,ifs,0⟩::rest) scope pos) 0 it acc env).onRaise λx=>do noteFrame x env;standAt theWindowsPlace) _ _ s;refine wpAny_notedAt ?_;unfold compStart;show wpAny _ _ (ask >>= _) _ _ s;refine aI<|wpAny_askSetting<|wpAny_ite ?_;split
 ·first
   | exact aI (aM<|aM<|anI rfl h0)
   | exact aM<|anI rfl h0
 ·first
   | exact aI (gq<|aI<|cz<|aI<|cE h (λit' s' h'=>aM<|anI rfl h') λ_ _ x=>x)
   | (refine aI<|gq ?_;show wpAny _ _ (standAt iter.pos >>= _) _ _ s;exact aI<|cz<|aI<|cE h (λit' s' h'=>aM<|anI rfl h') λ_ _ x=>x)
end
section
variable {X:Cx}{pins:bt}{σ:St}{H H':Hp}{s:aA}{a:aj}{y v:V}{u r:aa}{A:au}{E:aa->aA->Prop}
def GD{Q:Unit->aA->Prop}(hu:A.units+1<cLine)(I:Inv X pins σ H s)(g:G4 H a y v H')(ry:RelV y u)(rv:RelV v r)(h:∀s',Inv X pins σ H' s'->Q Unit.unit s') :
  wpAny (model X.prog X.w) A (dictSet a u r) Q E s:=by
 rcases g with⟨kvs,k,e,j,l,t⟩|⟨kvs,k,b,e,j,F,l,t⟩
 ·subst j t;obtain⟨z,hd,vs,d,dd⟩:=Sj I.hok e;have B:vs.length<=sizeLine:=by rw[<- d.length];exact z
  have m:(putK kvs k v).length<=sizeLine:=by have:=vS kvs k v;lia
  refine wpAny_dictSet_pairs (hsz:=B) (Je ry) dd λh' dd' hs=>h _ ?_;have K:∃q,h'.get? a=some q:=let⟨q,_,_,f,_⟩:=dd';⟨q,f⟩
  exact EA I (by rw[e];exact True.intro) hs K<|P4 m hd (d.put k rv) dd'
 ·subst j t
  cases(show u=Value.ref b from ry)
  obtain⟨z,hd,xs,d,dd⟩:=Sa I.hok e;have B:xs.length<=sizeLine:=by rw[<- ig d];exact z
  have m:(putK kvs k v).length<=sizeLine:=by have:=vS kvs k v;lia
  refine wpAny_dictSet_heap (hsz:=B) (show A.units<cLine by lia) (Cv I.hok F) dd λh' dd' hs=>h _ ?_;obtain⟨q,es,O,f,L,J,N,_,G⟩:=dd';refine EA I (by rw[e];exact True.intro) hs ⟨q,f⟩ ⟨m,hd,_,(d.put k F rv).keeps λc ys C=>?_,q,es,O,f,L,J,N,G⟩;rw[iS<|RP C e λz=>nomatch z];exact C
end
def zZ(ek ev t1 i1 t2 i2:aC)(f1 f2:List aC)(scope:Scope)(pos:Pos)(it acc:aa)(env:Env) :
  compTurn (.DictComp ek ev [⟨t1,i1,f1,0⟩,⟨t2,i2,f2,0⟩] scope pos) 0 it acc env=(do
   standAt i1.pos
   match <- pyNext it with
   | none=>pure (.done .next)
   | some v=>
    letOwnedTupleGo t1 it v
    assign t1 env v
    let mut ok:=true
    for c in f1 do
     if ok then ok <- isTrue c env (eval c env)
    if ok then
     let x <- eval i2 env
     standAt i2.pos
     let x <- foldedSetIterable i2 env x
     let _ <- runOwn (.compStart (.DictComp ek ev [⟨t1,i1,f1,0⟩,⟨t2,i2,f2,0⟩] scope pos) 1 (<- holding [x] (pyIter x)) acc env) env
    again (.compLoop (.DictComp ek ev [⟨t1,i1,f1,0⟩,⟨t2,i2,f2,0⟩] scope pos) 0 it acc env)):=by rfl
def zY(ek ev t1 i1 t2 i2:aC)(f1 f2:List aC)(scope:Scope)(pos:Pos)(it:aa)(d:aj)(env:Env) :
  compTurn (.DictComp ek ev [⟨t1,i1,f1,0⟩,⟨t2,i2,f2,0⟩] scope pos) 1 it (.ref d) env=(do
   standAt i2.pos
   match <- pyNext it with
   | none=>pure (.done .next)
   | some v=>
    letOwnedTupleGo t2 it v
    assign t2 env v
    let mut ok:=true
    for c in f2 do
     if ok then ok <- isTrue c env (eval c env)
    if ok then
     (do
      let kv <- eval ek env
      let vv <- holding [kv] (eval ev env)
      standAt { ek.pos with endLine:=ev.pos.endLine,endCol:=ev.pos.endCol }
      holding [kv,vv] (dictSet d kv vv))
    again (.compLoop (.DictComp ek ev [⟨t1,i1,f1,0⟩,⟨t2,i2,f2,0⟩] scope pos) 1 it (.ref d) env)):=by rfl
section
variable {prog:ah}{w:af}{A:au}{R:Result->aA->Prop}{s:aA}
def qP{f1 f2:List aC}{env:Env}
  (h0:codeAny (model prog w) A (.compLoop (.DictComp ek ev [⟨t1,i1,f1,0⟩,⟨t2,i2,f2,0⟩] scope pos) 1 it acc env) R s)
  (h:wpAny (model prog w) A (pyIter it) (λit' s'=>codeAny (model prog w) A (.compLoop (.DictComp ek ev [⟨t1,i1,f1,0⟩,⟨t2,i2,f2,0⟩] scope pos) 1 it' acc env) R s')
   (notedBy (model prog w) A env λx s'=>R (.error x) s') s) :
  codeAny (model prog w) A (.compStart (.DictComp ek ev [⟨t1,i1,f1,0⟩,⟨t2,i2,f2,0⟩] scope pos) 1 it acc env) R s:=by
 refine codeAny_of_tree ?_;show wpAny _ _ ((compStart (.DictComp ek ev [⟨t1,i1,f1,0⟩,⟨t2,i2,f2,0⟩] scope pos) 1 it acc env).onRaise λx=>do noteFrame x env;standAt theWindowsPlace) _ _ s;refine wpAny_notedAt ?_;unfold compStart;show wpAny _ _ (ask >>= _) _ _ s;refine aI<|wpAny_askSetting<|wpAny_ite ?_;split
 ·first
   | exact aI (aM<|aM<|anI rfl h0)
   | exact aM<|anI rfl h0
 ·first
   | exact aI (gq<|aI<|cz<|aI<|cE h (λit' s' h'=>aM<|anI rfl h') λ_ _ x=>x)
   | (refine aI<|gq ?_;show wpAny _ _ (standAt i2.pos >>= _) _ _ s;exact aI<|cz<|aI<|cE h (λit' s' h'=>aM<|anI rfl h') λ_ _ x=>x)
end
abbrev Fj (g:TG)(tc:TT)(tk tv:TE)(D:aj)(Nn:L2.St->Hp->Prop)(σ:L2.St)(J:It)(H1:Hp):Prop:=
 ∃V:Nat->Nat->L2.St->Hp->Prop,(∃m,V 0 m σ H1)/\∀i m f H',V i m f H' ->
  (J.stop i H'/\Nn f H')\/(J.go i H'/\∀x H2,J.yld i H' x H2->g x f H2 λd k=>tc d k λb j=>
   if b=true then tk d j λy H5=>tv d H5 λz H6=>∃H7,G4 H6 D y z H7/\∃m',m'<m/\V (i+1) m' d H7
   else ∃m',m'<m/\V (i+1) m' d j)
def BK{Z:Cx}{f1:List aC}{fp:ba}{tn:Nat->ak->Prop}{H:Hp}{s:aA}{g:TG}{tc:TT}{tk tv:TE}{Nn:L2.St->Hp->Prop}
  (hu:Z.A.units+1<cLine) (hc:Z.calm=true) (hxe:Z.xe=λ_ _=>False) (T:Turn Z.prog Z.w Z.K tg J fp it tn) (I:Inv Z pins σ H s) (st:tn 0 s.heap) (hf:∀b∈fp,oS Z pins H b) (hg:PG Z tg g) (ht:CQ Z ifs tc) (hk:PE Z ek tk) (hv:PE Z ev tv) (goal:Fj g tc tk tv D Nn σ J H) :
  codeAny (model Z.prog Z.w) Z.A (.compLoop (.DictComp ek ev [⟨t1,i1,f1,0⟩,⟨tg,i2,ifs,0⟩] scope pos) 1 (.ref it) (.ref D) Z.env) (λr s'=>r=.ok .next/\∃σ' H',Inv Z pins σ' H' s'/\Nn σ' H') s:=by
 obtain⟨V,⟨m0,v0⟩,C⟩:=goal;have j:∀{H':Hp},(∀b∈fp,H' b=none)->∀b∈fp,oS Z pins H' b:=λhn b hb=>⟨hn b hb,(hf b hb).2⟩;refine gM rfl (λn s'=>∃i σ' H',Inv Z pins σ' H' s'/\tn i s'.heap/\(∀b∈fp,H' b=none)/\V i n σ' H') (λn W hI=>?_) m0 ⟨0,σ,H,I,st,λb hb=>(hf b hb).1,v0⟩;obtain⟨i,σ5,H5,I5,G,B,w5⟩:=hI;show wpAny _ Z.A ((compTurn (.DictComp ek ev [⟨t1,i1,f1,0⟩,⟨tg,i2,ifs,0⟩] scope pos) 1 (.ref it) (.ref D) Z.env).onRaise λx=>do noteFrame x _;theTreesLotGoes x) _ _ W;refine h_ ?_;rw[zY];refine aI (cz<|aI ?_)
 rcases C i n σ5 H5 w5 with⟨F,q⟩|⟨go,step⟩
 ·refine ki (T.done Z rfl rfl rfl hc i pins W σ5 H5 _ I5 (j B) G F) λr s6 h9=>?_;obtain⟨U,I6⟩:=h9;subst U;exact aM ⟨rfl,σ5,H5,I6,q⟩
 ·refine ki (T.item Z rfl rfl rfl hc i pins W σ5 H5 _ I5 (j B) G go) λr s6 h9=>?_;obtain⟨u,U,h6⟩:=h9;subst U;mg_lt;have O:=I7.pinned (j fr7)<|T.obj _ _ st7;have k:∀{α:Type} {t:Sem α} {Q Q':α->aA->Prop} {E:aa->aA->Prop} {s:aA},wpAny (model Z.prog Z.w) Z.A t Q Z.xe s->(∀a s,Q a s->Q' a s)->wpAny (model Z.prog Z.w) Z.A t Q' E s:=λh hQ=>by
   rw[hxe]at h;exact uv h hQ
  refine aI<|k (hg _ s7 σ5 H7 x u _ O r7<|step x H7 y7) λ_ s8 ⟨σ8,H8,I8,q8⟩=>?_;refine aI<|k (ht _ s8 σ8 H8 _ I8 q8) λok s9 ⟨H9,I9,L⟩=>?_;have again:∀{f:aA} {H10:Hp},Inv Z (pins++qv fp s7.heap) σ8 H10 f->(∃m',m'<n/\V (i+1) m' σ8 H10) ->
    ∃m,m<n/\∃i σ' H',Inv Z pins σ' H' f/\tn i f.heap/\(∀b∈fp,H' b=none)/\V i m σ' H':=λ{f H10} I10 h9=>by
   obtain⟨m',hm,w10⟩:=h9;kpc_g;obtain⟨o,e,d⟩:=T.obj _ _ st7 b hb;exact(I10.pin (b,o)<|aU _<|aU _<|jK hb e).2.1
  cases ok with
  | false=>
   rw[bu bz]at L;exact aM ⟨rfl,again I9 L⟩
  | true=>
   rw[bf rfl]at L;refine aI<|aI<|k (hk _ s9 σ8 H9 _ I9 L) λy f ⟨v10,H10,I10,N,Y⟩=>?_;refine aI<|cL<|k (hv _ f σ8 H10 _ I10 Y) λz s11 ⟨v11,H11,I11,P,H12,dp,w12⟩=>?_;refine aI<|cz<|cL ?_;exact GD (X:=Z) hu I11 dp N P λs12 I12=>aM ⟨rfl,again I12 w12⟩
abbrev MN (ob:HO)(cap:List<|bo)(g:TG)(tc:TT)(wi2:TI)(g2:TG)(tc2:TT)(tk tv:TE)(σ:L2.St)(Q:VK)(J:It)(H1:Hp):Prop:=∀D,H1 D=none ->
 ∃W:Nat->Nat->L2.St->Hp->Prop,(∃m,W 0 m (cap.map<|LL σ)<|upd H1 D ob)/\∀i m f H',W i m f H' ->
  (J.stop i H'/\Q (.ref D) H')\/(J.go i H'/\∀x H2,J.yld i H' x H2->g x f H2 λd k=>tc d k λb j=>
   if b=true then wi2 d j (Fj g2 tc2 tk tv D (λσ5 H5=>∃m',m'<m/\W (i+1) m' σ5 H5) d)
   else ∃m',m'<m/\W (i+1) m' d j)
abbrev QG (ob:HO)(cap:List<|bo)(wi:TI)(g:TG)(tc:TT)(wi2:TI)(g2:TG)(tc2:TT)(tk tv:TE):TE:=λσ H Q=>wi σ H<|MN ob cap g tc wi2 g2 tc2 tk tv σ Q
def Mc{X:Cx}{use:Option<|aa->Sem Unit}{Q':aa->aA->Prop}{iter:aC}{N:am}{wi wi2:TI}{g g2:TG}{tc tc2:TT}{tk tv:TE}{ob:HO}(hob:∀{P:ah}{w:af}{H:Hp}(h:ak),sysModules<h.objs.size->j6 P w H (h.push { cls:=.type "dict",data:=.dict #[]}) h.objs.size ob)(hu:X.A.units+1<cLine)(hc:X.calm=true)(S:CpScope X scope N cap)(hi:PI X tg iter wi)
  (hg:∀C s₀ H₀ ex,PG (jk X scope N C s₀ H₀ ex) tg g) (ht:∀C s₀ H₀ ex,CQ (jk X scope N C s₀ H₀ ex) ifs tc) (hi2:∀C s₀ H₀ ex,PI (jk X scope N C s₀ H₀ ex) tg2 iter2 wi2)
  (hg2:∀C s₀ H₀ ex,PG (jk X scope N C s₀ H₀ ex) tg2 g2) (ht2:∀C s₀ H₀ ex,CQ (jk X scope N C s₀ H₀ ex) ifs2 tc2) (hk:∀C s₀ H₀ ex,PE (jk X scope N C s₀ H₀ ex) ek tk) (hv:∀C s₀ H₀ ex,PE (jk X scope N C s₀ H₀ ex) ev tv)
  (hs:∀x,foldedSetIterable iter X.env x=pure x:=by intro _;rfl) (hs2:∀env x,foldedSetIterable iter2 env x=pure x:=by intro _ _;rfl)  : ∀(pins:bt) (s:aA) (σ:L2.St) (H:Hp) (Q:VK),Inv X pins σ H s->QG ob cap wi g tc wi2 g2 tc2 tk tv σ H Q ->
  (∀(s6:aA) (C D:aj) (H5:Hp) (m:Str->be),s6.heap.Ns C m->oS X pins H5 C->(∀h',Heap.SameBut C s6.heap h'->Inv X pins σ H5 { s6 with heap:=h' })->Q (.ref D) H5->∀v,compPost (model X.prog X.w) X.A X.xe use Q' (.ref D) C (.ok v) s6) ->
  wpAny (model X.prog X.w) X.A (comprehension (.DictComp ek ev [⟨tg,iter,ifs,0⟩,⟨tg2,iter2,ifs2,0⟩] scope pos) scope X.env (firstIterPos [⟨tg,iter,ifs,0⟩,⟨tg2,iter2,ifs2,0⟩] pos) newDict (firstAsync [⟨tg,iter,ifs,0⟩,⟨tg2,iter2,ifs2,0⟩]) (firstIter [⟨tg,iter,ifs,0⟩,⟨tg2,iter2,ifs2,0⟩] X.env) use) Q' X.xe s:=by
 intro pins s σ H Q I h hfin;kd_p;refine fF (use:=use) rfl hs (tU hfree) S.kind S.nm<|ki (hi pins s σ H _ I h) λxv s1 h1=>ki h1 λitv f h2=>?_;obtain⟨it,fp,tn,J,H2,rfl,I2,T,st2,f2,h2⟩:=h2;refine bV<|Au λO k old t=>?_;obtain⟨W,⟨m0,w0⟩,turn⟩:=h2 f.heap.objs.size I2.fresh;dsimp only at k old t ⊢;have I3:Inv X pins σ (upd H2 f.heap.objs.size ob) { f with heap:=f.heap.push { cls:=.type "dict",data:=.dict #[]}}:=I2.laid (a:=f.heap.objs.size) (o:=ob) (h':=f.heap.push { cls:=.type "dict",data:=.dict #[]}) (t':=f.toks) (λ_ _ q=>aK _ q) (aL _)<|hob f.heap I2.big;have hfp:∀b∈fp,∃o,f.heap.get? b=some o:=λb hb=>by
  obtain⟨o,e,_⟩:=T.obj 0 _ st2 b hb;exact⟨o,e⟩
 have neD:∀b∈fp,b≠f.heap.objs.size:=λb hb=>by
  obtain⟨o,e⟩:=hfp b hb;exact br<|aS e
 have f3:∀b∈fp,oS X pins (upd H2 f.heap.objs.size ob) b:=λb hb=>⟨by rw[iS<|neD b hb];exact(f2 b hb).1,(f2 b hb).2⟩;have hDC:f.heap.objs.size≠(f.heap.push { cls:=.type "dict",data:=.dict #[]}).objs.size:=by rw[dH];exact br (bG _)
 have I4:=CW (tk:=f.toks+([]:List<|Str×aa).length) (fp:=fp) S I3 f3 (λb hb=>by
  obtain⟨o,e⟩:=hfp b hb;exact⟨o,aK _ e⟩) k t old
 have st4:tn 0 O:=T.keep _ _ _ st2 λb hb o e=>old b o<|aK _ e;have B:∀{H':Hp},(∀b∈fp,H' b=none)->∀b∈fp,oS (jk X scope N (f.heap.push { cls:=.type "dict",data:=.dict #[]}).objs.size { f with heap:=f.heap.push { cls:=.type "dict",data:=.dict #[]}} (upd H2 f.heap.objs.size ob) fp) [] H' b:=λhn b hb=>by
  have ok:=I4.ok;cb_eq
 have L:∀s4:aA,s4={ f with heap:=O,toks:=f.toks+([]:List<|Str×aa).length } ->
   codeAny (model X.prog X.w) X.A (.compLoop (.DictComp ek ev [⟨tg,iter,ifs,0⟩,⟨tg2,iter2,ifs2,0⟩] scope pos) 0 (.ref it) (.ref f.heap.objs.size)<|compEnvC scope (cellsFrom ((f.heap.push { cls:=.type "dict",data:=.dict #[]}).objs.size+1) scope.names<|qO X.env scope.names []) (f.heap.push { cls:=.type "dict",data:=.dict #[]}).objs.size X.env)
    (compPost (model X.prog X.w) X.A X.xe use Q' (.ref f.heap.objs.size) (f.heap.push { cls:=.type "dict",data:=.dict #[]}).objs.size) s4:=by
  rintro s4 rfl;refine gM rfl (λn s'=>∃i K H',Inv (jk X scope N (f.heap.push { cls:=.type "dict",data:=.dict #[]}).objs.size { f with heap:=f.heap.push { cls:=.type "dict",data:=.dict #[]}} (upd H2 f.heap.objs.size ob) fp) [] K H' s'/\tn i s'.heap/\(∀b∈fp,H' b=none)/\W i n K H') (λn s5 hI=>?_) m0 ⟨0,_,_,I4,st4,λb hb=>(f3 b hb).1,w0⟩;obtain⟨i,σ5,H5,I5,st5,Y,w5⟩:=hI;show wpAny _ X.A ((compTurn (.DictComp ek ev [⟨tg,iter,ifs,0⟩,⟨tg2,iter2,ifs2,0⟩] scope pos) 0 (.ref it) (.ref f.heap.objs.size)<|compEnvC scope (cellsFrom ((f.heap.push { cls:=.type "dict",data:=.dict #[]}).objs.size+1) scope.names<|qO X.env scope.names []) (f.heap.push { cls:=.type "dict",data:=.dict #[]}).objs.size X.env).onRaise λx=>do noteFrame x _;theTreesLotGoes x) _ _ s5;refine h_ ?_;rw[zZ];refine aI (cz<|aI ?_)
  rcases turn i n σ5 H5 w5 with⟨stop,q⟩|⟨go,step⟩
  ·refine ki (T.done (jk X scope N (f.heap.push { cls:=.type "dict",data:=.dict #[]}).objs.size { f with heap:=f.heap.push { cls:=.type "dict",data:=.dict #[]}} (upd H2 f.heap.objs.size ob) fp) rfl rfl rfl hc i [] s5 σ5 H5 _ I5 (B Y) st5 stop) λr s6 h9=>?_;obtain⟨hr,I6⟩:=h9;subst hr;obtain⟨m6,hn6,_⟩:=I6.loc;refine aM<|hfin s6 _ _ H5 m6 hn6 (I3.yk (aL _) I6.free) (λh' sb=>?_) q _;have u6:=I6.base;have nC:∀b o,(f.heap.push { cls:=.type "dict",data:=.dict #[]}).get? b=some o->b≠(f.heap.push { cls:=.type "dict",data:=.dict #[]}).objs.size:=λb o e=>br<|aS e;kj_on
   ·exact sb.extBut b o (nC b o e) (u6.keep b o e n hb hx)
   ·obtain⟨sl,z⟩:=u6.slot b o e n hb hx;exact⟨sl,sb.extBut b _ (nC b o e) z⟩
   ·exact u6.free b o e n hx
   ·obtain⟨o',z⟩:=u6.there b o e hx;exact⟨o',sb.extBut b _ (nC b o e) z⟩
   ·intro b o e;have hb:∀c v,H5 c=some v->c≠(f.heap.push { cls:=.type "dict",data:=.dict #[]}).objs.size:=λc v e z=>by
     rw[z]at e;have:=I6.free;rw[show H5 (f.heap.push { cls:=.type "dict",data:=.dict #[]}).objs.size=none from this]at e
     cases e
    refine(I6.hok b o e).stay (λc v hc q=>sb.extBut c v ?_ q) (λ_ q=>q) λ_ _ q=>q
    rcases hc with z|z
    ·rw[z];exact hb b o e
    ·exact hb c _ z
   ·intro b hb;obtain⟨_,z1,_,z3,z4,z5⟩:=f3 b hb;exact⟨z3,z1,z4,z5⟩
  ·refine ki (T.item (jk X scope N (f.heap.push { cls:=.type "dict",data:=.dict #[]}).objs.size { f with heap:=f.heap.push { cls:=.type "dict",data:=.dict #[]}} (upd H2 f.heap.objs.size ob) fp) rfl rfl rfl hc i [] s5 σ5 H5 _ I5 (B Y) st5 go) λr s6 h9=>?_;obtain⟨u,hr,h6⟩:=h9;subst hr;mg_lt;have I7':=I7.pinned (B fr7)<|T.obj _ _ st7;refine aI<|uv (hg _ _ _ fp _ s7 σ5 H7 x u _ I7' r7<|step x H7 y7) λ_ s8 ⟨σ8,H8,I8,q8⟩=>?_;refine aI<|uv (ht _ _ _ fp _ s8 σ8 H8 _ I8 q8) λok s9 ⟨H9,I9,q9⟩=>?_;have again:∀{F:aA} {H10:Hp} {j:L2.St},Inv (jk X scope N (f.heap.push { cls:=.type "dict",data:=.dict #[]}).objs.size { f with heap:=f.heap.push { cls:=.type "dict",data:=.dict #[]}} (upd H2 f.heap.objs.size ob) fp) ([]++qv fp s7.heap) j H10 F->(∃m',m'<n/\W (i+1) m' j H10) ->
     ∃m,m<n/\∃i K H',Inv (jk X scope N (f.heap.push { cls:=.type "dict",data:=.dict #[]}).objs.size { f with heap:=f.heap.push { cls:=.type "dict",data:=.dict #[]}} (upd H2 f.heap.objs.size ob) fp) [] K H' F/\tn i F.heap/\(∀b∈fp,H' b=none)/\W i m K H':=λ{F H10 j} I10 h9=>by
    obtain⟨m',hm,w10⟩:=h9;refine⟨m',hm,i+1,j,H10,I10.lI,T.keep _ _ _ st7 λb hb o e=>(I10.pin (b,o)<|aU _<|aU _<|jK hb e).1,λb hb=>?_,w10⟩;obtain⟨o,e,d⟩:=T.obj _ _ st7 b hb;exact(I10.pin (b,o)<|aU _<|aU _<|jK hb e).2.1
   cases ok with
   | false=>
    rw[bu bz]at q9;exact aM ⟨rfl,again I9 q9⟩
   | true=>
    rw[bf rfl]at q9;refine aI<|uv (hi2 _ _ _ fp _ s9 σ8 H9 _ I9 q9) λxv F h10=>aI<|cz ?_;rw[hs2];refine aI<|aM<|aI<|cL<|uv h10 λitv s11 h11=>?_;obtain⟨it2,fp2,tn2,J2,H11,rfl,V,T2,U,f11,goal⟩:=h11;have hcz:=hc;have G:=(λ(Z:Cx) (h1:Z.calm=true) (h2:Z.xe=λ_ _=>False) (h0:Z.A.units+1<cLine) T2 V=>BK (Z:=Z) (t1:=tg) (i1:=iter) (f1:=ifs) (i2:=iter2) (scope:=scope) (pos:=pos) h0 h1 h2 T2 V) _ (show(jk X scope N _ _ _ fp).calm=true from hcz) rfl (show(jk X scope N _ _ _ fp).A.units+1<cLine from hu) T2 V U f11 (hg2 _ _ _ fp) (ht2 _ _ _ fp) (hk _ _ _ fp) (hv _ _ _ fp) goal;refine aI<|wpAny_runOwn<|eU (qP G<|T2.self _ 0 _ _ _ U G) λr s12 hr12=>?_;obtain⟨hr,σ12,H12,I12,n12⟩:=hr12;subst hr;exact aM ⟨rfl,again I12 n12⟩
 exact sD (L _ rfl)<|T.self _ 0 _ _ _ st4<|L _ rfl
end L2
namespace Am
open PySem PySem.Spec PyProof.Rows L2
def QT{α:Type}{c:Prop}[Decidable c]{r:R α}{a:α}(h:gd c r=.ok a S):c/\r=.ok a S:=by
 unfold gd at h;by_cases hc:c
 ·rw[bf hc]at h;exact⟨hc,h⟩
 ·rw[bu hc]at h;cases h
def JJ{α:Type}{l m:List α}{n:Nat}{p:α}(h:l <+: m)(e:l[n]?=some p):m[n]?=some p:=by
 obtain⟨t,rfl⟩:=h;rw[aT (aJ.mp e).1,e]
abbrev wF (st:A->A->A->iM->R Unit)(s:Src)(g:Tg)(t:Te)(ek ev:Ex)(n:Nat):Nat->Nat->ad->iM->R (ad)
 | 0,_=>λτ S=>if s.fin S then .ok τ S else .no
 | k+1,i=>λτ S=>opt (s.get i S) λx=>(g x τ S).jD λd S1=>(t d S1).jD λb S2=>match b with
  | true=>(ek d S2).jD λy S3=>(ev d S3).jD λz S4=>(st (.ref n) y z S4).jD λ_ S5=>wF st s g t ek ev n k (i+1) d S5
  | false=>wF st s g t ek ev n k (i+1) d S2
def GU{st:A->A->A->iM->R Unit}{s:Src}{g:Tg}{t:Te}{ek ev:Ex}{n k:Nat}{T:Prop}(h:wF st s g t ek ev n (k+1) i τ S=.ok τ' S')
  (q:∀x τ1 S1 b S2,s.get i S=some x->g x τ S=.ok τ1 S1->t τ1 S1=.ok b S2->(b=true->∃y S3 z S4 u S5,ek τ1 S2=.ok y S3/\ev τ1 S3=.ok z S4/\st (.ref n) y z S4=.ok u S5/\wF st s g t ek ev n k (i+1) τ1 S5=.ok τ' S')->(b=false->wF st s g t ek ev n k (i+1) τ1 S2=.ok τ' S')->T):T:=by
 obtain⟨x,hx,h⟩:=vg h;obtain⟨τ1,S1,h1,h⟩:=jx h;obtain⟨b,S2,j,h⟩:=jx h;refine q x τ1 S1 b S2 hx h1 j (λhb=>?_) λhb=>?_
 ·subst hb;obtain⟨y,S3,f,h⟩:=jx h;obtain⟨z,S4,m,h⟩:=jx h;obtain⟨u,S5,d,h⟩:=jx h;exact⟨y,S3,z,S4,u,S5,f,m,d,h⟩
 ·subst hb;exact h
structure DKind (K:aq)(o:O)(ob:HO)(st:A->A->A->iM->R Unit):Prop where
 obj:∀{P:ah} {w:af} {H:Hp} (h:ak),sysModules<h.objs.size->j6 P w H (h.push { cls:=.type "dict",data:=.dict #[]}) h.objs.size ob
 new:∀{ρ:ba} {H:Hp} {S:iM} {p:aj},Rel K ρ H S->H p=none->Ext ρ (ρ++[p]) H (upd H p ob)/\Rel K (ρ++[p]) (upd H p ob) (S++[o])/\(ρ++[p])[S.length]?=some p
 put:∀{ρ:ba} {H:Hp} {S S':iM} {n:Nat} {p:aj} {y z:A} {vy vz:V} {u:Unit},Rel K ρ H S->ρ[n]?=some p->AV K ρ H y vy->AV K ρ H z vz->st (.ref n) y z S=.ok u S'->∃H',G4 H p vy vz H'/\Ext ρ ρ H H'/\Rel K ρ H' S'
def Rk{K:aq}:DKind K (.pW []) (.dK []) sP:=by
 refine⟨λh hb=>Iq h hb,λR hp=>R.UH (xs:=[]) (vs:=[]) hp trivial,λ{ρ H S S' n p y z vy vz u} R hp ay az h=>?_⟩;unfold sP at h
 cases y with
 | int k=>
  obtain⟨kvs,hn,h⟩:=vg h;obtain⟨f,h⟩:=QT h
  cases h
  cases ay
  obtain⟨ks,e,d⟩:=R.pW hp<|oZ hn;obtain⟨ex,g⟩:=R.CJ hp (oZ hn)<|d.put az k;exact⟨_,G4.k (k:=Sum.inl k) e<|by rw[<- d.length];exact f,ex,g⟩
 | _=>cases h
end Am
namespace L2
open PySem PySem.Spec PyProof.Rows
def GF{X:Cx}{i:Nat}{spos:Pos}{iter:aC}{N:am}{wi wi2:TI}{g g2:TG}{tc tc2:TT}{tk tv:TE}{ob:HO}(hob:∀{P:ah}{w:af}{H:Hp}(h:ak),sysModules<h.objs.size->j6 P w H (h.push { cls:=.type "dict",data:=.dict #[]}) h.objs.size ob)(hu:X.A.units+1<cLine)
  (hN:X.N.Nodup) (hi':X.N[i]?=some y) (hx:Loc X.env.scope y) (hc:X.calm=true) (S:CpScope X scope N cap) (hi:PI X tg iter wi)
  (hg:∀C s₀ H₀ ex,PG (jk X scope N C s₀ H₀ ex) tg g) (ht:∀C s₀ H₀ ex,CQ (jk X scope N C s₀ H₀ ex) ifs tc) (hi2:∀C s₀ H₀ ex,PI (jk X scope N C s₀ H₀ ex) tg2 iter2 wi2)
  (hg2:∀C s₀ H₀ ex,PG (jk X scope N C s₀ H₀ ex) tg2 g2) (ht2:∀C s₀ H₀ ex,CQ (jk X scope N C s₀ H₀ ex) ifs2 tc2) (hk:∀C s₀ H₀ ex,PE (jk X scope N C s₀ H₀ ex) ek tk) (hv:∀C s₀ H₀ ex,PE (jk X scope N C s₀ H₀ ex) ev tv)
  (hsw:swapsWith (.DictComp ek ev [⟨tg,iter,ifs,0⟩,⟨tg2,iter2,ifs2,0⟩] scope pos) (some<|.Name y py) spos.line X.env=pure true)
  (hf:X.fn y=true\/X.env.scope.names.lookup y=some .local) (hs:∀x,foldedSetIterable iter X.env x=pure x:=by intro _;rfl) (hs2:∀env x,foldedSetIterable iter2 env x=pure x:=by intro _ _;rfl) :
  PS X (.Assign [.Name y py] (.DictComp ek ev [⟨tg,iter,ifs,0⟩,⟨tg2,iter2,ifs2,0⟩] scope pos) spos) (IX (QG ob cap wi g tc wi2 g2 tc2 tk tv)<|ED i):=by
 kst_p;rw[exec_Assign_Name_used _ _ _ _ hsw];refine aI<|cz<|aI ?_;show wpAny _ X.A (do let _ <- comprehension (.DictComp ek ev [⟨tg,iter,ifs,0⟩,⟨tg2,iter2,ifs2,0⟩] scope pos) scope X.env (firstIterPos [⟨tg,iter,ifs,0⟩,⟨tg2,iter2,ifs2,0⟩] pos) newDict (firstAsync [⟨tg,iter,ifs,0⟩,⟨tg2,iter2,ifs2,0⟩]) (firstIter [⟨tg,iter,ifs,0⟩,⟨tg2,iter2,ifs2,0⟩] X.env) (some<|assign (.Name y py) X.env)) _ _ s;refine aI<|cE (Mc (Q':=λ_ s'=>SP X pins D .next s') hob hu hc S hi hg ht hi2 hg2 ht2 hk hv hs hs2 pins s σ H _ I h ?_) (λ_ s' V=>aM<|aM V) λ_ _ e=>e;intro t C B H5 m hn j F q v;have O:=F t.heap<|Heap.SameBut.refl _ _;obtain⟨K,f⟩:∃o,t.heap.get? C=some o/\∀v,o.data≠.cell v:=by
  obtain⟨o,es,W,e,d,_⟩:=hn;exact⟨o,e,λv z=>by rw[d]at z;cases z⟩
 have U:=O.pinned (fp:=[C]) (λb hb=>by rw[aW]at hb;rw[hb];exact j) (λb hb=>by rw[aW]at hb;rw[hb];exact⟨K,f⟩);show wpAny _ X.A (assign (.Name y py) X.env<|.ref B) _ _ t;refine ki (Ar hN hi' hx hf _ t σ H5 (.ref B) (.ref B) _ U rfl q) λ_ s7 h9=>?_;obtain⟨G,H7,I7,L⟩:=h9;have hp:=I7.pin (C,K)<|aU _<|aU _<|jK (aW.mpr rfl) f.1;refine⟨m,hn.at' λo e=>by rw[f.1]at e;cases e;exact hp.1,λh' k=>?_⟩;have J:∀c v,H7 c=some v->c≠C:=λc v e z=>by rw[z,hp.2.1]at e;cases e
 refine⟨G,H7,?_,L⟩;refine I7.lI.BA (ch:=[C]) rfl ⟨λb o e n hb hx=>?_,λb o e n hb hx=>?_,λb o e n hx=>n,λb o e hx=>?_,λ_ _ e=>e,λ_ _ _ e=>e,λ_ _ e=>⟨#[],by rw[Array.append_empty];exact e⟩⟩ ?_ I7.bare ?_
 ·exact k.extBut b o (by simpa using hx) e
 ·exact⟨o.slots,k.extBut b o (by simpa using hx) e⟩
 ·exact⟨o,k.extBut b o (by simpa using hx) e⟩
 ·intro b o e;refine(I7.hok b o e).stay (λc v hc q=>k.extBut c v ?_ q) (λ_ q=>q) λ_ _ q=>q
  rcases hc with z|z
  ·rw[z];exact J b o e
  ·exact J c _ z
 ·intro b hb;rw[aW]at hb;rw[hb];exact⟨j.2.2.2.1,j.2.1,j.2.2.2.2.1,j.2.2.2.2.2⟩
end L2
namespace Am
open PySem PySem.Spec PyProof.Rows L2
abbrev qL (st:A->A->A->iM->R Unit)(s:Src)(g:Tg)(t:Te)(src2:Ic)(g2:Tg)(t2:Te)(ek ev:Ex)(n:Nat):Nat->Nat->ad->iM->R (ad)
 | 0,_=>λτ S=>if s.fin S then .ok τ S else .no
 | k+1,i=>λτ S=>opt (s.get i S) λx=>(g x τ S).jD λd S1=>(t d S1).jD λb S2=>match b with
  | true=>(src2 d S2).jD λj S3=>(wF st j g2 t2 ek ev n j.k 0 d S3).jD λf S4=>qL st s g t src2 g2 t2 ek ev n k (i+1) f S4
  | false=>qL st s g t src2 g2 t2 ek ev n k (i+1) d S2
abbrev Jj (o:O)(st:A->A->A->iM->R Unit)(cap:List<|bo)(src:Ic)(g:Tg)(t:Te)(src2:Ic)(g2:Tg)(t2:Te)(ek ev:Ex):Ex:=λτ S=>(src τ S).bind λs S1=>(qL st s g t src2 g2 t2 ek ev S1.length s.k 0 (nL cap τ)<|S1++[o]).jD λ_ S2=>.ok (.ref S1.length) S2
def CA{st:A->A->A->iM->R Unit}{s:Src}{g:Tg}{t:Te}{src2:Ic}{g2:Tg}{t2:Te}{ek ev:Ex}{n k:Nat}{T:Prop}(h:qL st s g t src2 g2 t2 ek ev n (k+1) i τ S=.ok τ' S')
  (q:∀x τ1 S1 b S2,s.get i S=some x->g x τ S=.ok τ1 S1->t τ1 S1=.ok b S2->(b=true->∃s2 S3 τ2 S4,src2 τ1 S2=.ok s2 S3/\wF st s2 g2 t2 ek ev n s2.k 0 τ1 S3=.ok τ2 S4/\qL st s g t src2 g2 t2 ek ev n k (i+1) τ2 S4=.ok τ' S')->(b=false->qL st s g t src2 g2 t2 ek ev n k (i+1) τ1 S2=.ok τ' S')->T):T:=by
 obtain⟨x,hx,h⟩:=vg h;obtain⟨τ1,S1,h1,h⟩:=jx h;obtain⟨b,S2,d,h⟩:=jx h;refine q x τ1 S1 b S2 hx h1 d (λhb=>?_) λhb=>?_
 ·subst hb;obtain⟨s2,S3,j,h⟩:=jx h;obtain⟨τ2,S4,f,h⟩:=jx h;exact⟨s2,S3,τ2,S4,j,f,h⟩
 ·subst hb;exact h
section
variable {X:Cx}{pos:Pos}{tg iter tg2 iter2 ek ev:aC}{ifs ifs2:List aC}{scope:Scope}{N:am}{cap:List (bo)}{src src2:Ic}{g g2:Tg}{t t2:Te}{ck cv:Ex}{o:O}{ob:HO}{st:A->A->A->iM->R Unit}
def Mr(dk:DKind X.K o ob st)(σ:L2.St)(H:Hp)(Q:VK)(h9:tE X (Jj o st cap src g t src2 g2 t2 ck cv) σ H Q):QG ob cap (tI X src) (Kw X.K g) (Hi X.K t) (SJ X.K src2) (Kw X.K g2) (Hi X.K t2) (LU X.K ck) (LU X.K cv) σ H Q:=by
 room;refine⟨ρ,S,τ,R,r,iN (iT h) .refl λs S1 h1 ρ1 H1 J e1 R1 jr D hD=>?_⟩;obtain⟨τ2,S2,hcg,h1⟩:=tR h1;have h1:tY X ρ H Q (.ref S1.length) S2:=h1;obtain⟨eD,RD,atD⟩:=dk.new R1 hD;refine⟨λi m Y H'=>∃ρ' S' B,i+m=s.k/\Ext (ρ1++[D]) ρ' (upd H1 D ob) H'/\Rel X.K ρ' H' S'/\SR X.K ρ' H' B Y/\qL st s g t src2 g2 t2 ck cv S1.length m i B S'=.ok τ2 S2,⟨s.k,ρ1++[D],S1++[o],nL cap τ,(),.refl,RD,K4 ((r.ext e1).ext eD) cap,hcg⟩,?_⟩;rintro i m σ3 H3 ⟨ρ3,S3,τ3,hm,e3,R3,r3,j⟩;have at3:ρ3[S1.length]?=some D:=JJ e3.pre atD;have Z:=eD.trans e3
 cases m with
 | zero=>
  left;have j:(if s.fin S3 then Am.R.ok τ3 S3 else .no)=.ok τ2 S2:=j
  cases hf:s.fin S3 with
  | false=>rw[hf]at j;cases j
  | true=>
   rw[hf]at j
   cases j
   exact⟨by rw[show i=s.k by lia];exact jr.stop _ H3 ρ3 Z.toExt0 R3 hf,h1 ρ3 H3 _ (e1.trans Z) R3<|.ref at3⟩
 | succ m=>
  right;refine CA j λx τ4 S4 b S5 hx hg4 ht5 hT hF=>?_;have jg:=jr.go i S3 H3 ρ3 x Z.toExt0 R3 hx;refine⟨jg.1,λv H4 y=>?_⟩;obtain⟨e4,R4,v4⟩:=jg.2 v H4 y;kcj_m;have e36:=(e4.trans e5).trans e6
  cases b with
  | false=>
   dsimp only;rw[bu bz];exact⟨m,bG _,ρ6,S5,τ4,(),e3.trans e36,R6,r5.ext e6,hF rfl⟩
  | true=>
   dsimp only;rw[bf rfl];obtain⟨U,S6,τ7,S7,hs6,ci7,co7⟩:=hT rfl;refine⟨ρ6,S5,τ4,U,S6,R6,r5.ext e6,hs6,λρ8 H8 J2 e8 R8 jr2=>?_⟩;have e38:=e36.trans e8;refine⟨λi2 V Y H'=>∃ρ' S' B,i2+V=U.k/\Ext ρ8 ρ' H8 H'/\Rel X.K ρ' H' S'/\SR X.K ρ' H' B Y/\wF st U g2 t2 ck cv S1.length V i2 B S'=.ok τ7 S7,⟨U.k,ρ8,S6,τ4,(),.refl,R8,r5.ext<|e6.trans e8,ci7⟩,?_⟩;rintro i2 V σ9 H9 ⟨G,S9,τ9,hm2,e9,R9,r9,f⟩
   cases V with
   | zero=>
    left;have f:(if U.fin S9 then Am.R.ok τ9 S9 else .no)=.ok τ7 S7:=f
    cases hf:U.fin S9 with
    | false=>rw[hf]at f;cases f
    | true=>
     rw[hf]at f
     cases f
     exact⟨by rw[show i2=U.k by lia];exact jr2.stop _ H9 G e9.toExt0 R9 hf,m,bG _,G,_,_,(),(e3.trans e38).trans e9,R9,r9,co7⟩
   | succ V=>
    right;refine GU f λx9 d S10 b10 W hx9 hg10 ht11 hT9 hF9=>?_;have jg2:=jr2.go i2 S9 H9 G x9 e9.toExt0 R9 hx9;refine⟨jg2.1,λv10 H10 y10=>?_⟩;obtain⟨e10,R10,v10'⟩:=jg2.2 v10 H10 y10;refine⟨G,S9,τ9,x9,d,S10,R10,r9.ext e10,v10',hg10,λρ11 H11 σ11 e11 R11 C=>⟨ρ11,S10,d,b10,W,R11,C,ht11,λO H12 F R12=>?_⟩⟩;have N:=(e10.trans e11).trans F
    cases b10 with
    | false=>
     dsimp only;rw[bu bz];exact⟨V,bG _,O,W,d,(),e9.trans N,R12,C.ext F,hF9 rfl⟩
    | true=>
     dsimp only;rw[bf rfl];obtain⟨y,S13,z,S14,u,S15,hy,hz,hst,cg15⟩:=hT9 rfl;refine⟨O,W,d,y,S13,R12,C.ext F,hy,λρ13 H13 vy q R13 a13=>⟨ρ13,S13,d,z,S14,R13,C.ext<|F.trans q,hz,λρ14 H14 vz P R14 a14=>?_⟩⟩;have L:=(N.trans q).trans P;obtain⟨H15,dp,e15,R15⟩:=dk.put R14 (JJ (((e3.trans e38).trans e9).trans L).pre atD) (a13.ext P) a14 hst;exact⟨H15,dp,V,bG _,ρ14,S15,d,(),(e9.trans L).trans e15,R15,C.ext<|((F.trans q).trans P).trans e15,cg15⟩
def GV(dk:∀K,DKind K o ob st)(hu:X.A.units+64<cLine){i:Nat}{x:Str}{spos:Pos}(hN:X.N.Nodup)(hc:X.calm=true)(Sc:CpScope X scope N cap)(hi:AI X tg iter src)(hg:∀C s₀ H₀ ex,AG (jk X scope N C s₀ H₀ ex) tg g)(ht:∀C s₀ H₀ ex,Mw (jk X scope N C s₀ H₀ ex) ifs t)(hi2:∀C s₀ H₀ ex,AI (jk X scope N C s₀ H₀ ex) tg2 iter2 src2)
  (hg2:∀C s₀ H₀ ex,AG (jk X scope N C s₀ H₀ ex) tg2 g2) (ht2:∀C s₀ H₀ ex,Mw (jk X scope N C s₀ H₀ ex) ifs2 t2) (hk:∀C s₀ H₀ ex,AE (jk X scope N C s₀ H₀ ex) ek ck) (hv:∀C s₀ H₀ ex,AE (jk X scope N C s₀ H₀ ex) ev cv)
  (hi':X.N[i]?=some x:=by rfl) (hx:Loc X.env.scope x:=by first|exact Or.inl rfl|exact Or.inr rfl)
  (hsw:swapsWith (.DictComp ek ev [⟨tg,iter,ifs,0⟩,⟨tg2,iter2,ifs2,0⟩] scope pos) (some<|.Name x pos') spos.line X.env=pure true:=by rfl) (hf:X.fn x=true\/X.env.scope.names.lookup x=some .local:=by first|exact .inl rfl|exact .inr rfl|assumption)
  (hs:∀x,foldedSetIterable iter X.env x=pure x:=by intro _;rfl) (hs2:∀env x,foldedSetIterable iter2 env x=pure x:=by intro _ _;rfl):AS X (.Assign [.Name x pos'] (.DictComp ek ev [⟨tg,iter,ifs,0⟩,⟨tg2,iter2,ifs2,0⟩] scope pos) spos) (jn (Jj o st cap src g t src2 g2 t2 ck cv)<|je i):=
 PS.imp (GF (dk X.K).obj () hN hi' hx hc Sc hi (g:=Kw X.K g) (tc:=Hi X.K t) (wi2:=SJ X.K src2) (g2:=Kw X.K g2) (tc2:=Hi X.K t2) (tk:=LU X.K ck) (tv:=LU X.K cv) (λC s₀ H₀ ex=>(hg C s₀ H₀ ex).g0 rfl) (λC s₀ H₀ ex=>ht C s₀ H₀ ex) (λC s₀ H₀ ex=>(hi2 C s₀ H₀ ex).i0 rfl) (λC s₀ H₀ ex=>(hg2 C s₀ H₀ ex).g0 rfl) (λC s₀ H₀ ex=>ht2 C s₀ H₀ ex) (λC s₀ H₀ ex=>(hk C s₀ H₀ ex).e0 rfl) (λC s₀ H₀ ex=>(hv C s₀ H₀ ex).e0 rfl) hsw hf hs hs2) λD σ H ⟨ρ,S,τ,R,r,h⟩=>
  Mr (dk X.K) σ H _ ⟨ρ,S,τ,R,r,iN (of_post h) .refl λa S1 h1 ρ1 H1 x e1 f d=>h1 ρ1 H1 _ e1 f<|(r.ext e1).set d⟩
end
abbrev K1 (x:A)(S:iM):R A:=match x with
 | .ref n=>opt (rT S n) λkvs=>.ok (.int kvs.length) S
 | _=>.no
def ML{n:Nat}:K1 (.ref n) S=opt (rT S n) λkvs=>.ok (.int kvs.length) S:=rfl
def Pb:jH X (.builtin "len") (rN X<|f1 K1):=λpins s σ H xs us Q I r h0=>by
 kpf_c;clear h0
 cases hv with
 | ref hp=>
  obtain⟨kvs,hn,h⟩:=iV h;obtain⟨ks,e,d⟩:=R.pW hp<|oZ hn;kln_w
  cases rx
  exact RC I (.inl e) λt s' f=>⟨.int ks.length,H,f,⟨_,rfl⟩,by rw[<- d.length];exact h _ _ _ .refl R<|.int _⟩
 | _=>exact h.elim
abbrev n8 (f:A->Option PyData):ad->Option (List PyData)
 | []=>some []
 | x::xs=>(f x).bind λd=>(n8 f xs).map λds=>d::ds
abbrev mG (S:iM):Nat->A->Option PyData
 | 0,_=>none
 | n+1,a=>match a with
  | .jC=>some .none
  | .bl b=>some (.bool b)
  | .int i=>some (.int i)
  | .str x=>some (.str x)
  | .tup xs=>(n8 (mG S n) xs).map λds=>.tuple ds
  | .ref i=>(iG S i).bind λxs=>(n8 (mG S n) xs).map λds=>.list ds
  | _=>none
mutual
abbrev mF:PyData->Nat
 | .none | .bool _=>5
 | .int _=>1921
 | .str x=>(reprText x).length
 | .list xs | .tuple xs=>vY xs+3
 | .dict _=>0
abbrev vY:List PyData->Nat
 | []=>0
 | x::xs=>mF x+2+vY xs
end
def qj{f:A->Option PyData}{x:A}(h:n8 f (x::xs)=some ds):∃d es,f x=some d/\n8 f xs=some es/\ds=d::es:=by
 obtain⟨d,e1,h⟩:=bD.mp h;obtain⟨es,e2,rfl⟩:=aV.mp h;exact⟨d,es,e1,e2,rfl⟩
theorem xM{f:A->Option PyData}(hf:∀x d,f x=some d->d.hasDict=false):∀{xs:ad}{ds:List PyData},n8 f xs=some ds->PyData.hasDictAll ds=false
 | [],ds,h=>by cases h;dsimp[PyData.hasDictAll]
 | x::xs,ds,h=>by
  obtain⟨d,es,e1,e2,rfl⟩:=qj h;dsimp[PyData.hasDictAll,hf x d e1,xM hf e2,Bool.or_self]
theorem xS:∀(n:Nat) (a:A) (d:PyData),mG S n a=some d->d.hasDict=false
 | 0,a,d,h=>nomatch h
 | n+1,a,d,h=>by
  cases a with
  | jC=>cases h;dsimp[PyData.hasDict]
  | bl b=>cases h;dsimp[PyData.hasDict]
  | int i=>cases h;dsimp[PyData.hasDict]
  | str x=>cases h;dsimp[PyData.hasDict]
  | tup xs=>obtain⟨ds,e,rfl⟩:=aV.mp h;dsimp[PyData.hasDict];exact xM (xS n) e
  | ref i=>
   obtain⟨xs,_,h⟩:=bD.mp h;obtain⟨ds,e,rfl⟩:=aV.mp h;dsimp[PyData.hasDict];exact xM (xS n) e
  | _=>cases h
theorem yj{f:A->Option PyData}{n:Nat}(hf:∀x d,f x=some d->d.depth<=n):∀{xs:ad}{ds:List PyData},n8 f xs=some ds->PyData.depthAll ds<=n
 | [],ds,h=>by cases h;dsimp[PyData.depthAll];exact cj _
 | x::xs,ds,h=>by
  obtain⟨d,es,e1,e2,rfl⟩:=qj h;dsimp[PyData.depthAll];exact Nat.max_le.mpr ⟨hf x d e1,yj hf e2⟩
theorem yb:∀(n:Nat) (a:A) (d:PyData),mG S n a=some d->d.depth<=n
 | 0,a,d,h=>nomatch h
 | n+1,a,d,h=>by
  cases a with
  | jC=>cases h;dsimp[PyData.depth];exact cj _
  | bl b=>cases h;dsimp[PyData.depth];exact cj _
  | int i=>cases h;dsimp[PyData.depth];exact cj _
  | str x=>cases h;dsimp[PyData.depth];exact cj _
  | tup xs=>obtain⟨ds,e,rfl⟩:=aV.mp h;dsimp[PyData.depth];exact eK (yj (yb n) e)
  | ref i=>
   obtain⟨xs,_,h⟩:=bD.mp h;obtain⟨ds,e,rfl⟩:=aV.mp h;dsimp[PyData.depth];exact eK<|yj (yb n) e
  | _=>cases h
mutual
theorem xU:∀d:PyData,d.showable=true->d.hasDict=false->d.shown.length<=mF d
 | .none,_,_=>by dsimp[PyData.shown,mF];decide
 | .bool true,_,_=>by dsimp[PyData.shown,mF];decide
 | .bool false,_,_=>by dsimp[PyData.shown,mF];decide
 | .int i,h,_=>by
  have h:i.natAbs.log2<1920:=by simpa[PyData.showable]using h
  dsimp[PyData.shown,mF];exact PyProof.Rows.int_text_len_1921 h
 | .str x,_,_=>by dsimp[PyData.shown,mF];exact aL _
 | .list xs,h,h'=>by
  have h:PyData.showableAll xs=true:=by simpa[PyData.showable]using h
  have h':PyData.hasDictAll xs=false:=by simpa[PyData.hasDict]using h'
  obtain⟨l,e⟩:=rQ xs h h';dsimp[PyData.shown,mF];have:=listText_len_le<|PyData.shownAll xs;rw[l]at this
  lia
 | .tuple xs,h,h'=>by
  have h:PyData.showableAll xs=true:=by simpa[PyData.showable]using h
  have h':PyData.hasDictAll xs=false:=by simpa[PyData.hasDict]using h'
  obtain⟨l,e⟩:=rQ xs h h';dsimp[PyData.shown,mF];have:=tupleText_len_le<|PyData.shownAll xs;rw[l]at this
  lia
 | .dict kvs,_,h=>by simp[PyData.hasDict]at h
theorem rQ:∀xs:List PyData,PyData.showableAll xs=true->PyData.hasDictAll xs=false->(PyData.shownAll xs).length=xs.length/\((PyData.shownAll xs).map (·.length)).sum+2 * xs.length<=vY xs
 | [],_,_=>by dsimp[PyData.shownAll,vY];exact⟨rfl,aL _⟩
 | x::xs,h,h'=>by
  have h:x.showable=true/\PyData.showableAll xs=true:=by simpa[PyData.showableAll]using h
  have h':x.hasDict=false/\PyData.hasDictAll xs=false:=by simpa[PyData.hasDictAll]using h'
  have a:=xU x h.1 h'.1;obtain⟨l,b⟩:=rQ xs h.2 h'.2;dsimp[PyData.shownAll,vY,bP,gy,bB]
  lia
end
section
variable {X:Cx}{pins:bt}{σ:L2.St}{H:Hp}{s:aA}{ρ:ba}{S:iM}
theorem vA{f:A->Option PyData}(hf:∀a x u d,AV X.K ρ H a x->RelV x u->f a=some d->∃as,Reads s.heap u d as):∀{xs:ad}{vs:List V}{us:ar}{ds:List PyData},AVs X.K ρ H xs vs->Vals vs us->n8 f xs=some ds->∃as,ReadsAll s.heap us ds as
 | [],vs,us,ds,h1,h2,h=>by cases h1;cases h2;cases h;exact⟨_,.nil⟩
 | x::xs,vs,us,ds,h1,h2,h=>by
  cases h1 with
  | cons a b=>
   cases h2 with
   | cons r t=>
    obtain⟨d,es,e1,e2,rfl⟩:=qj h;obtain⟨as,q⟩:=hf _ _ _ _ a r e1;obtain⟨bs,q'⟩:=vA hf b t e2;exact⟨_,.cons q q'⟩
theorem yd(I:Inv X pins σ H s)(R:Rel X.K ρ H S):∀(n:Nat) (a:A) (x:V) (u:aa) (d:PyData),AV X.K ρ H a x->RelV x u->mG S n a=some d->∃as,Reads s.heap u d as
 | 0,a,x,u,d,_,_,h=>nomatch h
 | n+1,a,x,u,d,ha,r,h=>by
  cases ha with
  | jC=>cases h;cases(show u=Value.none from r);exact⟨_,.none⟩
  | bl b=>cases h;cases(show u=Value.bool b from r);exact⟨_,.bool b⟩
  | int i=>cases h;obtain⟨t,rfl⟩:∃t,u=Value.int i t:=r;exact⟨_,.int i t⟩
  | str i=>cases h;obtain⟨t,rfl⟩:∃t,u=Value.str i t:=r;exact⟨_,.str i t⟩
  | tup h1 r1=>
   cases(show u=Value.ref _ from r)
   obtain⟨ds,e,rfl⟩:=aV.mp h;obtain⟨us,f,p,_⟩:=I.tuple<|m8.of h1;obtain⟨o,g,hc,k,hd⟩:=p;obtain⟨as,q⟩:=vA (yd I R n) r1 f e;exact⟨_,.tuple g hc hd q⟩
  | ref h1=>
   cases(show u=Value.ref _ from r)
   obtain⟨xs,e1,h⟩:=bD.mp h;obtain⟨ds,e,rfl⟩:=aV.mp h;obtain⟨vs,j,r1⟩:=R.lst h1<|iW e1;obtain⟨us,f,p,_⟩:=I.list<|kP.of j;obtain⟨o,k,g,hc,_,hd⟩:=p;obtain⟨as,q⟩:=vA (yd I R n) r1 f e;exact⟨_,.list g hc hd q⟩
  | _=>cases h
def E2:bootBuiltins "repr" = some (.builtin "repr"):=by decide +kernel
abbrev w9 (x:A)(S:iM):R A:=opt (mG S 9 x) λd=>gd (d.showable=true/\mF d<=sizeLine)<|.ok (.str d.shown) S
def Ls(hu:X.A.units+64<cLine)(hg:X.A.guards=some []):jH X (.builtin "repr") (rN X<|f1 w9):=λpins s σ H xs us Q I r h0=>by
 kpf_c;clear h0;kln_w;obtain⟨d,e,h⟩:=iV h;obtain⟨⟨hs,hc⟩,h⟩:=jd h;have g:=xS _ _ _ e;have J:=yb _ _ _ e;have sz:=bX (xU d hs g) hc;obtain⟨G,q⟩:=yd I R 9 x w u d hv rx e;have f:∀h' v C,(∀b o,s.heap.get? b=some o->h'.get? b=some o)->EP X pins σ Q (.str d.shown v) { s with heap:=h',toks:=C }:=λh' v C k=>⟨.str d.shown,H,I.kept k,⟨v,rfl⟩,h _ _ _ .refl R<|.str _⟩
 cases q with
 | none=>exact P.repr_of_none (by have:=f s.heap s.toks (s.toks+1) λ_ _ z=>z;simpa only [PyData.shown]using this)
 | bool b=>exact P.repr_of_bool (by have:=f s.heap s.toks (s.toks+1) λ_ _ z=>z;simpa only [PyData.shown]using this)
 | int i t=>exact P.repr_of_int (by simpa[PyData.showable]using hs) (by have:=f s.heap s.toks (s.toks+1) λ_ _ z=>z;simpa only [PyData.shown]using this)
 | str y t=>exact P.repr_of_str (by have:=f s.heap s.toks (s.toks+1) λ_ _ z=>z;simpa only [PyData.shown]using this) (by simpa only [PyData.shown]using sz)
 | list h1 m j B=>exact repr_of_reads' (.list h1 m j B) hs (PyData.noDict_hsm g) hg () (λ_ _ z=>z) f sz
 | tuple h1 m j B=>exact repr_of_reads' (.tuple h1 m j B) hs (PyData.noDict_hsm g) hg () (λ_ _ z=>z) f sz
 | dict h1 m j B F=>simp[PyData.hasDict]at g
end
theorem sS{f g:A->Option PyData}(h:∀x d,f x=some d->g x=some d):∀{xs:ad}{ds:List PyData},n8 f xs=some ds->n8 g xs=some ds
 | [],ds,e=>e
 | x::xs,ds,e=>by
  obtain⟨d,es,e1,e2,rfl⟩:=qj e;unfold n8;rw[h x d e1,bw,sS h e2];rfl
theorem nY(h:∀n xs,iG S n=some xs->iG S' n=some xs):∀(n:Nat) (a:A) (d:PyData),mG S n a=some d->mG S' n a=some d
 | 0,a,d,e=>nomatch e
 | n+1,a,d,e=>by
  cases a with
  | jC=>exact e
  | bl b=>exact e
  | int i=>exact e
  | str x=>exact e
  | tup xs=>
   obtain⟨ds,e1,rfl⟩:=aV.mp e;show(n8 (mG S' n) xs).map _=_;rw[sS (nY h n) e1];rfl
  | ref i=>
   obtain⟨xs,e0,e⟩:=bD.mp e;obtain⟨ds,e1,rfl⟩:=aV.mp e;show(iG S' i).bind _=_;rw[h i xs e0,bw,sS (nY h n) e1];rfl
  | _=>cases e
abbrev UK (S:iM)(x:A):Prop:=∃d,mG S 9 x=some d/\d.showable=true/\mF d<=sizeLine
section
variable {X:Cx}
abbrev Ai (o:A)(as:ad)(S:iM):R A:=match o,as with
 | .ref n,[.int i,x]=>opt (iG S n) λxs=>gd (0<=i/\i<=1000000/\i.toNat<=xs.length/\xs.length<sizeLine) (.ok .jC<|S.set n<|.lst (xs.take i.toNat++x::xs.drop i.toNat))
 | _,_=>.no
def Mq{α:Type}(l:List α)(y:α)(k:Nat)(hk:k<=l.length):((l.toArray.extract 0 k).push y++l.toArray.extract k)=(l.take k++y::l.drop k).toArray:=by
 apply Array.ext';simp;exact c_<|by rw[cA];lia
def Ky:NU X "list.insert" (rM X Ai):=λpins s σ H x vs v us Q I rx C h9=>by
 obtain⟨ρ,S,o,B,R,L,va,h⟩:=h9
 cases L with
 | @ref p n hp=>
  match B,va,h with
  | [],_,h=>exact h.elim
  | [y],_,h=>exact(by cases y<;>exact h.elim)
  | y::_::_::_,_,h=>exact(by cases y<;>exact h.elim)
  | [y,z],va,h=>
   obtain⟨P,N,rfl,hy,K⟩:=QM va
   cases hy with
   | int i=>
    gn_on;obtain⟨hi,h⟩:=jd h;obtain⟨W,h1,r⟩:=R.lst hp<|iW hn;have V:=r.length;obtain⟨ex,G⟩:=R.put hp (iW hn) ((r.take i.toNat).append<|.cons K<|r.drop i.toNat)
    cases rx
    obtain⟨g,CU,rfl,J,j⟩:∃g CU,us=g::CU/\RelV (.int i) g/\Vals [N] CU:=by cases C with|cons a b=>exact⟨_,_,rfl,a,b⟩
    obtain⟨t,rfl⟩:∃t,g=Value.int i t:=J;obtain⟨f,rfl,m⟩:=j.one;obtain⟨O,d,k,q,U,e⟩:=I.yF h1;refine gT F.slot_list_insert ⟨_,e,rfl⟩ F.entry_list_insert (F.args_list_insert_3 _ _ _) (AutoListH.list_insert_list_int_val_1 p d.toArray k i t f (by
     simp[Builtin.List.listFitsIndex];lia)<|by rw[aP];lia) ⟨e,?_⟩
    refine⟨.jC,_,I.Ms (its':=d.take i.toNat++f::d.drop i.toNat) h1 e ?_ ((q.take i.toNat).append<|.cons m<|q.drop i.toNat) ?_,rfl,h _ _ _ ex G .jC⟩
    ·show((d.toArray.extract 0<|if i<0 then _ else min i.toNat d.toArray.size).push f++d.toArray.extract (if i<0 then _ else min i.toNat d.toArray.size))=_;rw[bu (),show min i.toNat d.toArray.size=i.toNat by rw[aP];lia];exact Mq d f i.toNat ()
    ·dsimp[aO,bB,cg,cA]
     lia
   | _=>exact h.elim
 | _=>exact h.elim
end
end Am
namespace L2
open PySem PySem.Spec PyProof.Rows
abbrev pA (con:Nat->ar):Nat->ar
 | 0=>[]
 | i+1=>pA con i++con i
section
variable {prog:ah}{w:af}{A:au}{R:Result->aA->Prop}{I:aj}{fp wr:ba}{n:Nat}{P:Nat->aa->Prop}{St:Nat->ak->Prop}
def Gi(W:Walks prog w A.in1 I fp wr n P St)(con:Nat->ar)(hb:ak)(S:aj)(hSf:S∉fp)(hSb:hb.objs.size=S+1)(hfb:∀b∈fp,b<hb.objs.size)
  (hval:∀i v,i<n->P i v->∃r k,v=.ref r/\r∉wr/\r≠S/\hb.get? r=some { cls:=.type "list",data:=.seq (con i).toArray k }) (hsz:(pA con n).length<=sizeLine) :
  ∀(k i:Nat) (s:aA) (a:aj) (c d:Nat),n-i=k->i<=n->St i s.heap->s.heap.get? S=some { cls:=.type "list",dict:=none,data:=.seq #[.ref a] c,slots:=#[]}->s.heap.get? a=some { cls:=.type "list",data:=.seq (pA con i).toArray d }->a≠S->a∉wr->(0<i->hb.objs.size<=a) ->
  (∀b o,b∉wr->b≠S->hb.get? b=some o->s.heap.get? b=some o) ->
  (∀h' tk a d,(∀b o,b∉wr->b≠S->hb.get? b=some o->h'.get? b=some o)->h'.get? a=some { cls:=.type "list",data:=.seq (pA con n).toArray d }->(0<n->hb.objs.size<=a)->R (.ok<|.ret<|.ref a) { s with heap:=h',toks:=tk }) ->
  codeAny (model prog w) A (.builtin "sum.loop" ⟨[.ref I,.ref S,rawInt 2,rawInt 0],[]⟩) R s:=by
 have hSw:S∉wr:=λh=>hSf<|W.sub _ h;have mono:∀i,i<=n->(pA con i).length<=(pA con n).length:=by
  have:∀j i,(pA con i).length<=(pA con<|i+j).length:=λj=>by
   induction j with
   | zero=>intro i;exact aL _
   | succ j ih=>intro i;exact bX (ih i)<|by show _<=(pA con (i+j)++con (i+j)).length;rw[aO];lia
  intro i hi;have:=this (n-i) i;rw[show i+(n-i)=n by lia]at this;exact this
 intro k
 induction k with
 | zero=>
  intro i s a c d hk hi C hS ha haS G Y f hR;have hin:i=n:=()
  subst hin;refine fJ F.entry_sum_loop ?_;rw[e_ gw _];show wpAny _ A.in1 (seqItems? (.ref S) >>= _) _ _ s;refine aI<|wpAny_seqItems hS rfl ?_;show wpAny _ A.in1 (tryCatch (pyNext<|.ref I) _ >>= _) _ _ s;refine aI<|wpAny_tryCatch<|W.done s _ _ C λh' tk g=>?_;exact aM<|hR h' tk a d (λb o q m e=>g b o q<|f b o q m e) (g a _ G ha) Y
 | succ k ih=>
  intro i s a c d hk hi C hS ha haS G Y f hR;have t:i<n:=()
  refine fJ F.entry_sum_loop ?_;rw[e_ gw _];show wpAny _ A.in1 (seqItems? (.ref S) >>= _) _ _ s;refine aI<|wpAny_seqItems hS rfl ?_;show wpAny _ A.in1 (tryCatch (pyNext<|.ref I) _ >>= _) _ _ s;refine aI<|wpAny_tryCatch<|W.item i s _ _ t C λv h' tk hP N g=>?_;obtain⟨r,kr,rfl,J,hrS,hr⟩:=hval i v t hP;have O:=g S _ hSw hS;have ha':=g a _ G ha;have hr':=g r _ J<|f r _ J hrS hr;have m1:=mono (i+1) t;have hl1:(pA con i).toArray.size+(con i).toArray.size<=sizeLine:=by
   have:(pA con<|i+1).length=(pA con i).length+(con i).length:=aO;rw[aP,aP];lia
  show wpAny _ A.in1 ((holding [Value.ref r]<|binaryOp .Add (.ref a)<|.ref r).attempt >>= _) _ _ _;refine aI<|iu<|cL<|PySem.P.add_list ha' hr' ?_ hl1;have Z:S<h'.objs.size:=aS O;have B:hb.objs.size<=h'.objs.size:=by rw[hSb];exact Z
  have U:(h'.push { cls:=.type "list",data:=.seq<|(pA con i).toArray++(con i).toArray}).get? S=some { cls:=.type "list",dict:=none,data:=.seq #[.ref a] c,slots:=#[]}:=aK _ O;show wpAny _ A.in1 (updateSeq S (λ_=>#[.ref h'.objs.size]) >>= _) _ _ _;refine aI ?_;refine wpAny_updateSeq U rfl ?_;have L:=dU (Obj.mapSeq λ_=>#[Value.ref h'.objs.size]) U rfl;refine aI<|wpAny_letGo ?_;refine aI ?_;have haN:(((h'.push { cls:=.type "list",data:=.seq<|(pA con i).toArray++(con i).toArray}).update S<|Obj.mapSeq λ_=>#[Value.ref h'.objs.size]).update S<|Obj.mapSeq λ_=>#[Value.ref h'.objs.size]).get? h'.objs.size=some { cls:=.type "list",data:=.seq (pA con<|i+1).toArray 0 }:=by
   rw[cD _ _<|br Z,cD _ _<|br Z,bC _ rfl];show some _=some _;congr 3;show _=(pA con i++con i).toArray;simp
  have kp:∀b o,b≠S->h'.get? b=some o->(((h'.push { cls:=.type "list",data:=.seq<|(pA con i).toArray++(con i).toArray}).update S<|Obj.mapSeq λ_=>#[Value.ref h'.objs.size]).update S<|Obj.mapSeq λ_=>#[Value.ref h'.objs.size]).get? b=some o:=λb o m e=>by
   rw[cD _ _<|cQ m,cD _ _<|cQ m];exact aK _ e
  refine wpAny_updateSeq L rfl (aM ⟨plainId_quiet gw _,ih (i+1) _ h'.objs.size _ 0 () t (W.frame _ _ _ N λb hb' o e=>?_) (dU _ L rfl) haN (gK Z) (λz=>?_) (λ_=>B) (λb o q m e=>?_) λh'' V a'' d'' K e'' f''=>?_⟩)
  ·exact kp b o (λz=>hSf<|by rw[<- z];exact hb') e
  ·exact cK _ (bH (hfb _<|W.sub _ z) B)
  ·exact kp b o m (g b o q<|f b o q m e)
  ·exact hR h'' V a'' d'' K e'' f''
end
def GA(a b:aa):argsOk "sum" ⟨[a,b],[]⟩:=by unfold argsOk;kernel_rfl
def wm:isSubtype (.type "list") (.type "bytes")=pure false:=by rw[isSubtype_type];kernel_rfl
def yx:isSubtype (.type "list") (.type "str")=pure false:=by rw[isSubtype_type];kernel_rfl
def sI:isSubtype (.type "list") (.type "bytearray")=pure false:=by rw[isSubtype_type];kernel_rfl
section
variable {prog:ah}{w:af}{A:au}{E:aa->aA->Prop}{s:aA}
def xH{a:aj}{its:ar}{con:Nat->ar}{k:Nat}{Q:aa->aA->Prop}(hh:A.handled=none)(hl:s.heap.get? l=some { cls:=.type "list",data:=.seq its.toArray k })(ha:s.heap.get? a=some { cls:=.type "list",data:=.seq #[] d })
  (hc:∀i v,its[i]?=some v->∃r q,v=.ref r/\s.heap.get? r=some { cls:=.type "list",data:=.seq (con i).toArray q }) (hsz:(pA con its.length).length<=sizeLine) (h0:0<its.length)
  (hQ:∀h' tk b q,(∀c o,s.heap.get? c=some o->h'.get? c=some o)->s.heap.objs.size<=b->h'.get? b=some { cls:=.type "list",data:=.seq (pA con its.length).toArray q }->Q (.ref b) { s with heap:=h',toks:=tk }) :
  wpAny (model prog w) A (call (.builtin "sum") [.ref l,.ref a]) Q E s:=by
 have m:s.heap.IsList l its.toArray:=⟨_,hl,rfl,_,rfl⟩;have L:l<s.heap.objs.size:=aS hl;have G:a<s.heap.objs.size:=aS ha;refine call_function_tree F.kind_sum F.plain_sum F.entry_sum (GA _ _) ?_;unfold Builtin.«sum»;dsimp[bB,gE];rw[bu ⋯];refine aI<|wpAny_of_eq (show Builtin.Builtins.bindParams "sum" ["start"] 0 ⟨[.ref a],[]⟩=pure [some<|.ref a]from rfl) ?_;refine aI<|fR m ?_;refine aI<|aM ?_;dsimp[List.forIn_cons,List.forIn_nil];have ta:∀s':aA,s'.heap.get? a=some { cls:=.type "list",data:=.seq #[] d }->s'.TypeIs (.ref a) "list" := λs' e=>⟨_,e,rfl⟩;have e1:(s.heap.push { cls:=.type "list_iterator",data:=.fields #[.ref l,.int 0 0]}).get? a=some { cls:=.type "list",data:=.seq #[] d }:=aK _ ha;refine aI<|aI<|aI<|gu (T := "list") (b:=false) (ta _ e1) yx ?_;dsimp[dS,eG];refine aM<|aI<|aI<|gu (T := "list") (b:=false) (ta _ e1) wm ?_;dsimp[dS,eG];refine aM<|aI<|aI<|gu (T := "list") (b:=false) (ta _ e1) sI ?_;dsimp[dS,eG];refine aM<|aM ?_;refine aI<|bV ?_;have g:(s.heap.push { cls:=.type "list_iterator",data:=.fields #[.ref l,.int 0 0]}).objs.size=s.heap.objs.size+1:=dH ..;have j:((s.heap.push { cls:=.type "list_iterator",data:=.fields #[.ref l,.int 0 0]}).push { cls:=.type "list",data:=.seq #[.ref a]}).objs.size=(s.heap.push { cls:=.type "list_iterator",data:=.fields #[.ref l,.int 0 0]}).objs.size+1:=dH ..;have old:∀c o,s.heap.get? c=some o->((s.heap.push { cls:=.type "list_iterator",data:=.fields #[.ref l,.int 0 0]}).push { cls:=.type "list",data:=.seq #[.ref a]}).get? c=some o:=λc o e=>aK _<|aK _ e;have W:=Walks.list (prog:=prog) (w:=w) (A:=A.in1) hh s.heap.objs.size l (br L) its.toArray;have t:∀b∈[s.heap.objs.size,l],b<(s.heap.push { cls:=.type "list_iterator",data:=.fields #[.ref l,.int 0 0]}).objs.size:=λb hb=>by
  rw[g]
  rcases bh.mp hb with z|z
  ·rw[z];exact bG _
  ·rw[aW.mp z];exact fW L
 have C:∀b:aj,b<s.heap.objs.size->b<(s.heap.push { cls:=.type "list_iterator",data:=.fields #[.ref l,.int 0 0]}).objs.size:=λb hb=>by rw[g];exact fW hb
 have B:its.toArray.size=its.length:=aP ..;refine aM ⟨plainId_quiet gw _,Gi W con ((s.heap.push { cls:=.type "list_iterator",data:=.fields #[.ref l,.int 0 0]}).push { cls:=.type "list",data:=.seq #[.ref a]}) (s.heap.push { cls:=.type "list_iterator",data:=.fields #[.ref l,.int 0 0]}).objs.size (λz=>cK _<|t _ z) j (λb hb=>by rw[j];exact fW<|t b hb)
  (λi v hi hv=>by
   obtain⟨r,q,rfl,e⟩:=hc i v (by simpa using hv);have K:r<s.heap.objs.size:=aS e;refine⟨r,q,rfl,λz=>?_,br<|C r K,old _ _ e⟩;rw[aW.mp z]at K;exact cK _ K) (by rw[B];exact hsz) its.toArray.size 0 _ a 0 d (Nat.sub_zero _) (cj _) (W.frame _ _ _ ⟨⟨_,bC _ rfl,rfl,rfl⟩,m.push _⟩ λb _ o e=>aK _ e) (bC _ rfl) (old _ _ ha) (br<|C a G) (λz=>by rw[aW.mp z]at G;exact cK _ G) (λz=>absurd z<|cK _) (λb o _ _ e=>e) λh' tk b q O e f=>?_⟩
 ·rw[B]at e f;refine hQ h' tk b q (λc o N=>?_) ?_ e
  ·have J:c<s.heap.objs.size:=aS N;refine O c o (λz=>?_) (br<|C c J)<|old c o N;rw[aW.mp z]at J;exact cK _ J
  ·have:=f h0;rw[j,g]at this
   lia
end
end L2
namespace Am
open PySem PySem.Spec PyProof.Rows L2
abbrev DG (S:iM):ad->Option (List<|ad)
 | []=>some []
 | .ref r::xs=>(iG S r).bind λys=>(DG S xs).map λd=>ys::d
 | _=>none
section
variable {X:Cx}
abbrev ID (x y:A)(S:iM):R A:=match x,y with
 | .ref n,.ref m=>opt (iG S n) λxs=>opt (iG S m) λzs=>opt (DG S xs) λd=>gd (zs=[]/\0<xs.length/\d.flatten.length<=sizeLine) (.ok (.ref S.length)<|S++[.lst d.flatten])
 | _,_=>.no
theorem Fy{H:Hp}(R:Rel X.K ρ H S):∀{xs:ad}{vs:List V}{yss:List<|ad},AVs X.K ρ H xs vs->DG S xs=some yss->yss.length=vs.length/\∀i v,vs[i]?=some v->∃r ws,v=.ref r/\H r=some (.lst ws)/\AVs X.K ρ H (yss.getD i []) ws
 | [],vs,yss,r,e=>by cases r;cases e;exact⟨rfl,λi v h=>nomatch h⟩
 | x::xs,vs,yss,r,e=>by
  cases r with
  | cons hv t=>
   cases hv with
   | ref hp=>
    obtain⟨ys,e1,e⟩:=bD.mp e;obtain⟨d,e2,rfl⟩:=aV.mp e;obtain⟨ws,h1,r1⟩:=R.lst hp<|iW e1;obtain⟨l,q⟩:=Fy R t e2;refine⟨b_ (·+1) l,λi v h=>?_⟩
    cases i with
    | zero=>cases h;exact⟨_,ws,rfl,h1,r1⟩
    | succ i=>exact q i v h
   | _=>cases e
abbrev yO (h:ak)(its:ar)(i:Nat):ar:=match its[i]? with
 | some (.ref r)=>match h.get? r with
  | some o=>match o.data with
   | .seq a _=>a.toList
   | _=>[]
  | none=>[]
 | _=>[]
def ON{h:ak}{its:ar}{i:Nat}{r:aj}{o:Obj}{a:Array aa}{k:Nat}(e:its[i]?=some (.ref r))(ho:h.get? r=some o)(hd:o.data=.seq a k):yO h its i=a.toList:=by
 unfold yO;rw[e];show(match h.get? r with
  | some o=>match o.data with
   | .seq a _=>a.toList
   | _=>[]
  | none=>[])=_
 rw[ho];show(match o.data with
   | .seq a _=>a.toList
   | _=>[])=_
 rw[hd]
theorem BH{H:Hp}{con:Nat->ar}{yss:List<|ad}:∀n,n<=yss.length->(∀i,i<n->∃ws,AVs X.K ρ H (yss.getD i []) ws/\Vals ws (con i))->∃ws,AVs X.K ρ H (yss.take n).flatten ws/\Vals ws (pA con n)
 | 0,_,_=>⟨[],by rw[List.take_zero];exact .nil,.nil⟩
 | n+1,hl,h=>by
  obtain⟨ws,a,b⟩:=BH n () λi hi=>h i ();obtain⟨us,c,d⟩:=h n<|bG _;refine⟨ws++us,?_,b.append d⟩;rw[gW,di,aF ()];refine a.append ?_;rw[aG,aF ()]at c;show AVs X.K ρ H [yss[n]].flatten us;rw[List.flatten_singleton];exact c
def Qp(hc:X.calm=true):jH X (.builtin "sum") (rN X<|f2 ID):=λpins s σ H xs us Q I r h0=>by
 obtain⟨w,w',rfl,ρ,S,x,y,R,hv,C,h⟩:=RG h0;clear h0;obtain⟨u1,u2,rfl,O,L⟩:=Vals.two r
 cases hv with
 | @ref p n hp=>
  cases C with
  | @ref p' m F=>
   gn_on;obtain⟨zs,hm,h⟩:=iV h;obtain⟨yss,hy,h⟩:=iV h;obtain⟨⟨h1,h2,V⟩,h9⟩:=jd h;subst h1
   cases(show u1=Value.ref p from O)
   cases(show u2=Value.ref p' from L)
   obtain⟨vs,Z,r1⟩:=R.lst hp<|iW hn;obtain⟨v0,a2,r2⟩:=R.lst F (iW hm)
   cases r2
   obtain⟨_,f,k,rv,hl,e1⟩:=I.yF Z;obtain⟨_,it0,d,J,hl0,e2⟩:=I.yF a2
   cases J
   obtain⟨ly,q⟩:=Fy R r1 hy;have rl:=r1.length;have row:∀i v,f[i]?=some v->∃r g q',v=.ref r/\AVs X.K ρ H (yss.getD i []) g/\Vals g (yO s.heap f i)/\s.heap.get? r=some { cls:=.type "list",data:=.seq (yO s.heap f i).toArray q' }:=λi v e=>by
    have hi:i<f.length:=(aJ.mp e).1;obtain⟨r,g,ev,hr,j⟩:=q i (vs[i]'())<|aF _;obtain⟨v',B,z⟩:=rv.get (aF<|show i<vs.length by lia);rw[e]at B
    cases B
    rw[ev]at z
    cases(show v=Value.ref r from z)
    obtain⟨_,U,Y,N,_,W⟩:=I.yF hr;have P:=ON e W rfl;rw[List.toList_toArray]at P;exact⟨r,g,Y,rfl,j,by rw[P];exact N,by rw[P];exact W⟩
   obtain⟨fs,j,t⟩:=BH (X:=X) (ρ:=ρ) (H:=H) (con:=yO s.heap f) (yss:=yss) f.length () (λi hi=>by
    obtain⟨r,g,q',_,a,b,_⟩:=row i f[i] (aF hi);exact⟨g,a,b⟩)
   rw[c_ ()]at j;have lf:(pA (yO s.heap f) f.length).length<=sizeLine:=by rw[<- t.length,<- j.length];exact V
   refine xH (I.ok.hd hc) e1 e2 (λi v e=>?_) lf () λh' tk b q' hk hb e=>?_
   ·obtain⟨r,g,q',a,_,_,b⟩:=row i v e;exact⟨r,q',a,b⟩
   ·have hN:H b=none:=I.hok.fresh hb;obtain⟨ex,R',G⟩:=R.lay hN j;exact⟨.ref b,upd H b<|.lst fs,I.laid hk hb ⟨by rw[<- j.length];exact V,_,q',t,e⟩,rfl,h9 _ _ _ ex R'<|.ref G⟩
  | _=>exact h.elim
 | _=>cases C<;>exact h.elim
end
end Am
namespace K59
open PySem L2 Am
abbrev top (i:Nat):aE:=PySem.Challenge.pw_undercells_k59_no_two_tables.main.body.getD i<|.Pass ⟨0,0,0,0⟩
meta abbrev sR:aE:=top 11
meta abbrev tD:am:=["thing"]
meta abbrev tF:am:=["thing"]
abbrev sZ:Sm:=
 jR (rV (iX (f2 yp)<|iD (iE 0)<|iD (eC<|.ty "int") iJ)<|Nt<|iX (f2 yp)<|iD (iE 0)<|iD (eC<|.ty "bool") iJ)
abbrev om:ad->iM->R A:=lq tD sZ
meta abbrev qW:aE:=top 15
meta abbrev rR:am:=["thing"]
meta abbrev rj:am:=["thing"]
abbrev rC:Sm:=
 jR (rV (eFn om<|iD (iE 0) iJ)<|LW Cn Cn (eC<|.int 1) (iE 0)<|eC<|.int 1000000000)
abbrev lV:ad->iM->R A:=lq rR rC
meta abbrev qf:aE:=top 16
meta abbrev qC:am:=["thing"]
meta abbrev qB:am:=["thing"]
abbrev qh:Sm:=
 jR (rV (iX (f2 yp)<|iD (iE 0)<|iD (eC<|.ty "list") iJ)<|iX (f1 BP)<|iD (jb [none] (jF<|iE 0) (je 0) jt<|eFn lV<|iD (iE 0) iJ) iJ)
abbrev lZ:ad->iM->R A:=lq qC qh
meta abbrev oF:aE:=top 17
meta abbrev kU:am:=["thing"]
meta abbrev oq:am:=["thing"]
abbrev k_:Sm:=
 jR (rV (eFn lZ<|iD (iE 0) iJ)<|rV (iK LQ (iX (f1 kj)<|iD (iE 0) iJ)<|eC<|.int 0)<|iK (pO false) (iE 0)<|iX (f1 qt)<|iD (iE 0) iJ)
abbrev ju:ad->iM->R A:=lq kU k_
meta abbrev qx:aE:=top 18
meta abbrev qa:am:=["row", "above"]
meta abbrev qe:am:=["row", "above"]
abbrev qE:Sm:=
 jR (rV (iK Cn (iX (f1 kj)<|iD (iE 0) iJ)<|iX (f1 kj)<|iD (iE 1) iJ)<|iX (f1 BP)<|iD (jb [none,none] (zF (iE 1)<|iE 0) (Ft 2<|v_ (je 0)<|v_ (je 1) Em) jt<|iK Nc (iE 0)<|iE 1) iJ)
abbrev kG:ad->iM->R A:=lq qa qE
meta abbrev s_:aE:=top 19
meta abbrev nX:am:=["thing"]
meta abbrev sW:am:=["thing"]
abbrev n9:Sm:=
 ja (qT (Hh (sE<|sJ<|iX (f2 yp)<|iD (iE 0)<|iD (eC<|.ty "list") iJ)<|sE<|sJ<|iX (f1 BP)<|iD (jb [none] (jF<|iE 0) (je 0) jt<|eFn ju<|iD (iE 0) iJ) iJ)
 (jR<|eC<|.bl false)
 mE)
 (jR<|iX (f1 BP)<|iD (jb [none,some 0] (vQ (eC<|.int 1)<|iX (f1 kj)<|iD (iE 0) iJ) (je 0) jt<|eFn kG<|iD (iK j8 (iE 1)<|iE 0)<|iD (iK j8 (iE 1)<|iK aSub (iE 0)<|eC<|.int 1) iJ) iJ)
abbrev j9:ad->iM->R A:=lq nX n9
meta abbrev ye:aE:=top 20
meta abbrev xD:am:=["table"]
meta abbrev xJ:am:=["table"]
abbrev xK:Sm:=
 jR (jb [none] (jF<|iE 0) (je 0) jt<|iX (f1 mW)<|iD (iE 0) iJ)
abbrev rB:ad->iM->R A:=lq xD xK
meta abbrev zW:aE:=top 21
meta abbrev wN:am:=["table"]
meta abbrev An:am:=["table"]
abbrev wU:Sm:=
 jR (jb [none] (jF<|iE 0) (je 0) jt<|iX (f1 kj)<|iD (iE 0) iJ)
abbrev oX:ad->iM->R A:=lq wN wU
meta abbrev lH:aE:=top 22
meta abbrev jW:am:=["first", "second", "numbers"]
meta abbrev lG:am:=["first", "second"]
abbrev jU:Sm:=
 ja (qT (Hh (sE<|sJ<|eFn j9<|iD (iE 0) iJ)<|Hh (sE<|sJ<|eFn j9<|iD (iE 1) iJ)<|qK<|iK (pO true) (eFn oX<|iD (iE 0) iJ)<|eFn oX<|iD (iE 1) iJ)
 (jR<|eC<|.bl false)
 mE)
 (ja (jn (iX (f1 qt)<|iD (z9 [none,none] (jF<|iE 1) (je 0) jt (jF<|iE 0) (je 1) jt<|iE 1) iJ)<|je 2)
 (jR<|rV (iK Cn (iX (f1 kj)<|iD (iE 2) iJ)<|eC<|.int 40)<|iK (pO false) (iE 2)<|iX (f1 mW)<|iD (iX (f2 wK)<|iD (eC<|.int 1)<|iD (iK jJ (iX (f1 kj)<|iD (iE 2) iJ)<|eC<|.int 1) iJ) iJ))
abbrev jm:ad->iM->R A:=lq jW jU
meta abbrev ou:aE:=top 23
meta abbrev oi:am:=["row", "letter", "place"]
meta abbrev oz:am:=["row", "letter"]
abbrev p8:Te:=
 qK (iK Rl (iK j8 (iE 0)<|iE 2)<|iE 1)
abbrev pU:Sm:=
 K2 2 aSub (eC<|.int 1)
abbrev n_:Sm:=
 ja (jn (iK aSub (iX (f1 kj)<|iD (iE 0) iJ)<|eC<|.int 1)<|je 2)
 (ja (lY p8
 pU 1000000)
 (jR<|iE 2))
abbrev kT:ad->iM->R A:=lq oi n_
meta abbrev tW:aE:=top 24
meta abbrev tK:am:=["rows", "at", "letter", "up", "place"]
meta abbrev tQ:am:=["rows", "at"]
abbrev uf:Ic:=
 Ci (iK aSub (iE 1)<|eC<|.int 1) (Bx vq<|eC<|.int 1) (Bx vq<|eC<|.int 1)
abbrev uw:Sm:=
 ja (jn (eFn kT<|iD (iK j8 (iE 0)<|iE 3)<|iD (iE 2) iJ)<|je 4)
 (jn (tX<|iD (iE 2)<|iD (iK j8 (iK j8 (iE 0)<|iE 3)<|iE 4) iJ)<|Ft 2<|v_ (Cp (iK j8 (iE 0)<|iE 3)<|iE 4)<|v_ (je 2) Em)
abbrev sU:Sm:=
 ja (jn (Qu Pg<|iK j8 (iE 0)<|iE 1)<|je 2)
 (ja (sF uf (je 3)
 uw)
 (jR<|iE 2))
abbrev oB:ad->iM->R A:=lq tK sU
meta abbrev sV:aE:=top 25
meta abbrev p_:am:=["first", "second", "rows", "row_of", "told", "number"]
meta abbrev oh:am:=["first", "second"]
abbrev uG:Ic:=
 Ci (iX (f1 K1)<|iD (iE 3) iJ) (eC<|.int 0) (Bx vq<|eC<|.int 1)
abbrev uK:Sm:=
 rO (Mx qy (iE 4)<|iD (eFn oB<|iD (iE 2)<|iD (iK G8 (iE 3)<|iE 5) iJ) iJ)
abbrev qb:Sm:=
 ja (qT (sE<|sJ<|eFn jm<|iD (iE 0)<|iD (iE 1) iJ)
 (Dr "NoTables" [])
 mE)
 (ja (jn (eFn rB<|iD (iE 0) iJ)<|je 2)
 (ja (jn (Jj (.pW []) sP [none,none,none] (Kz<|iE 1) (Ft 2<|v_ (je 0)<|v_ (je 1) Em) jt (jF<|iE 1) (je 2) jt (iE 2)<|iE 0)<|je 3)
 (ja (jn (jQ iJ)<|je 4)
 (ja (sF uG (je 5)
 uK)
 (jR<|Bx Dj<|iE 4)))))
abbrev kc:ad->iM->R A:=lq p_ qb
meta abbrev uU:aE:=top 27
meta abbrev uX:am:=["_law_script", "_law_at", "_law_cell", "_law_great"]
meta abbrev vE:am:=["_law_script", "_law_at"]
abbrev vC:Sm:=
 ja (jn (eC<|.int 0)<|je 2)
 (ja (qT (qK<|iK Nc (iE 1)<|iX (f1 kj)<|iD (iE 0) iJ)
 (jn (iK j8 (iE 0)<|iE 1)<|je 2)
 mE)
 (ja (jn (eC<|.int 0)<|je 3)
 (ja (qT (qK<|iK Rl (iE 2)<|iK sX (eC<|.int 10)<|eC<|.int 18)
 (jn (iE 2)<|je 3)
 mE)
 (jR<|jQ<|iD (iE 3)<|iD (iK wu (iK jJ (iK jJ (iE 2)<|iK yq (eC<|.int 7919)<|iE 1)<|eC<|.int 13)<|eC<|.int 2147483647) iJ))))
abbrev pZ:ad->iM->R A:=lq uX vC
meta abbrev rH:aE:=top 28
meta abbrev o_:am:=["_law_bag_here", "_law_many", "_law_found"]
meta abbrev kR:am:=["_law_bag_here", "_law_many"]
abbrev oY:Sm:=
 ja (qT (qK<|iK LQ (iK j8 (iE 0)<|eC<|.int 0)<|eC<|.int 0)
 (ja (jn (iK wu (iK j8 (iE 0)<|eC<|.int 0)<|iE 1)<|je 2)
 (ja (jn (iK DY (iK j8 (iE 0)<|eC<|.int 0)<|iE 1)<|Cp (iE 0)<|eC<|.int 0)
 (jR<|iE 2)))
 mE)
 (ja (jn (iK wu (iK jJ (iK yq (iK j8 (iE 0)<|eC<|.int 1)<|eC<|.int 48271)<|eC<|.int 11)<|eC<|.int 2147483647)<|Cp (iE 0)<|eC<|.int 1)
 (jR<|iK wu (iK wu (iK yq (iK DY (iK j8 (iE 0)<|eC<|.int 1)<|eC<|.int 8)<|eC<|.int 69621)<|eC<|.int 2147483629)<|iE 1))
abbrev iP:ad->iM->R A:=lq o_ oY
meta abbrev pG:aE:=top 29
meta abbrev pC:am:=["_law_bag_here", "_law_most", "_law_many", "_law_way", "_law_base", "_law_made", "_law_k", "_law_letter"]
meta abbrev pI:am:=["_law_bag_here", "_law_most"]
abbrev wA:Ic:=
 mY (iE 2)
abbrev qM:Sm:=
 ja (jn (iK jJ (eC<|.int 1)<|eFn iP<|iD (iE 0)<|iD (iE 4) iJ)<|je 7)
 (ja (qT (KC (qK<|iK (pO false) (iE 3)<|eC<|.int 3)<|qK<|iK (Uw false) (iE 7)<|iE 5)
 (jn (iK jJ (eC<|.int 41)<|iE 6)<|je 7)
 mE)
 (rO<|Mx qy (iE 5)<|iD (iE 7) iJ))
abbrev pD:Sm:=
 ja (jn (eFn iP<|iD (iE 0)<|iD (iK jJ (iE 1)<|eC<|.int 1) iJ)<|je 2)
 (ja (jn (eFn iP<|iD (iE 0)<|iD (eC<|.int 4) iJ)<|je 3)
 (ja (jn (iK j8 (jQ<|iD (eC<|.int 3)<|iD (eC<|.int 6)<|iD (iK sX (eC<|.int 10)<|eC<|.int 9)<|iD (eC<|.int 40) iJ)<|iE 3)<|je 4)
 (ja (jn (jQ iJ)<|je 5)
 (ja (sF wA (je 6)
 qM)
 (jR<|iE 5)))))
abbrev lJ:ad->iM->R A:=lq pC pD
meta abbrev vj:aE:=top 30
meta abbrev vF:am:=["_law_rows", "_law_letter", "_law_made", "_law_row", "_law_greater"]
meta abbrev vI:am:=["_law_rows", "_law_letter"]
abbrev B0:Ic:=
 jF (iE 2)
abbrev vZ:Sm:=
 ja (jn (jb [none,some 1,some 3] (mY<|iX (f1 kj)<|iD (iE 3) iJ) (je 0) (qK<|iK LQ (iK j8 (iE 2)<|iE 0)<|iE 1)<|iE 0)<|je 4)
 (ja (qT (qK<|iK (pO false) (iE 4)<|jQ iJ)
 (ja (rO<|Mx qy (iE 3)<|iD (iE 1) iJ)
 (jR<|iE 2))
 mE)
 (jn (tX<|iD (iE 1)<|iD (iK j8 (iE 3)<|iK j8 (iE 4)<|eC<|.int 0) iJ)<|Ft 2<|v_ (Cp (iE 3)<|iK j8 (iE 4)<|eC<|.int 0)<|v_ (je 1) Em))
abbrev vH:Sm:=
 ja (jn (jb [none] (jF<|iE 0) (je 0) jt<|iX (f1 mW)<|iD (iE 0) iJ)<|je 2)
 (ja (sF B0 (je 3)
 vZ)
 (jR<|iK jJ (iE 2)<|jQ<|iD (jQ<|iD (iE 1) iJ) iJ))
abbrev p9:ad->iM->R A:=lq vF vH
meta abbrev qc:aE:=top 31
meta abbrev qq:am:=["_law_letters_here", "_law_first", "_law_second", "_law_k", "_law_more", "_law_at"]
meta abbrev nQ:am:=["_law_letters_here"]
abbrev w4:Ic:=
 mY (iX (f1 kj)<|iD (iE 0) iJ)
abbrev qY:Sm:=
 ja (jn (eFn p9<|iD (iE 1)<|iD (iK j8 (iE 0)<|iE 3) iJ)<|je 4)
 (ja (jn (iK j8 (jb [none,some 1,some 4] (mY<|iX (f1 kj)<|iD (iE 4) iJ) (je 0) (Hh (qK<|iK (pO false) (iE 0)<|iX (f1 kj)<|iD (iE 1) iJ)<|qK<|iK Nc (iX (f1 kj)<|iD (iK j8 (iE 1)<|iE 0) iJ)<|iX (f1 kj)<|iD (iK j8 (iE 2)<|iE 0) iJ)<|iE 0)<|eC<|.int 0)<|je 5)
 (ja (qT (qK<|iK (pO false) (iE 5)<|iX (f1 kj)<|iD (iE 2) iJ)
 (rO<|Mx qy (iE 2)<|iD (jQ iJ) iJ)
 mE)
 (ja (rO<|Mx qy (iK j8 (iE 2)<|iE 5)<|iD (iK jJ (iE 3)<|eC<|.int 1) iJ)
 (jn (iE 4)<|je 1))))
abbrev qp:Sm:=
 ja (jn (jQ iJ)<|je 1)
 (ja (jn (jQ iJ)<|je 2)
 (ja (sF w4 (je 3)
 qY)
 (jR<|tX<|iD (iE 1)<|iD (iE 2) iJ)))
abbrev kC:ad->iM->R A:=lq qq qp
meta abbrev xr:aE:=top 32
meta abbrev xG:am:=["_law_e", "_law_due", "_law_found", "_law_names"]
meta abbrev wY:am:=["_law_e", "_law_due"]
abbrev yg:Sm:=
 ja (jn (jQ<|iD (uZ (GO [("NoTables",false)])<|iE 0)<|iD (uZ (GO [("NoTables",false)])<|iE 0)<|iD (uZ (GO [("NoTables",false)])<|iE 0)<|iD (uZ (GO [("NoTables",false)])<|iE 0) iJ)<|je 2)
 (ja (jn (iK jJ (iE 2)<|jQ<|iD (uZ (GO [("NoTables",true)])<|iE 0)<|iD (uZ (GO [("NoTables",false)])<|iE 0)<|iD (uZ (GO [("NoTables",false)])<|iE 0)<|iD (uZ (GO [("NoTables",false)])<|iE 0) iJ)<|je 2)
 (ja (jn (jQ<|iD (eC<|.str<|PySem.Str.ofString "word")<|iD (eC<|.str<|PySem.Str.ofString "number")<|iD (eC<|.str<|PySem.Str.ofString "pair")<|iD (eC<|.str<|PySem.Str.ofString "many")<|iD (eC<|.str<|PySem.Str.ofString "tables")<|iD (eC<|.str<|PySem.Str.ofString "text")<|iD (eC<|.str<|PySem.Str.ofString "row")<|iD (eC<|.str<|PySem.Str.ofString "name") iJ)<|je 3)
 (jR<|rV (uZ (GO [("NoTables",true)])<|iE 0)<|iK (pO false) (iE 2)<|jb [none,some 1] (zj<|iE 3) (je 0) jt<|iK (pO false) (iE 0)<|iE 1)))
abbrev qX:ad->iM->R A:=lq xG yg
meta abbrev pL:aE:=top 33
meta abbrev pQ:am:=["_law_first", "_law_second", "_law_kept", "_law_e"]
meta abbrev mT:am:=["_law_first", "_law_second"]
abbrev pR:Sm:=
 ja (jn (iX (f1 w9)<|iD (jQ<|iD (iE 0)<|iD (iE 1) iJ) iJ)<|je 2)
 (ja (yQ 3 ["NoTables"] (rO<|Jh kc<|iD (iE 0)<|iD (iE 1) iJ)
 (jR<|rV (eFn qX<|iD (iE 3)<|iD (eC<|.str<|PySem.Str.ofString "tables") iJ)<|iK (pO false) (iX (f1 w9)<|iD (jQ<|iD (iE 0)<|iD (iE 1) iJ) iJ)<|iE 2))
 (jR<|eC<|.bl false))
abbrev jM:ad->iM->R A:=lq pQ pR
meta abbrev mP:aE:=top 34
meta abbrev mJ:am:=["_law_bag_here", "_law_second", "_law_made", "_law_many", "_law_at", "_law_place", "_law_way"]
meta abbrev mO:am:=["_law_bag_here", "_law_second"]
abbrev mH:Sm:=
 ja (jn (jb [none] (jF<|iE 1) (je 0) jt<|iX (f1 mW)<|iD (iE 0) iJ)<|je 2)
 (ja (jn (iX (f1 BB)<|iD (jb [none] (jF<|iE 2) (je 0) jt<|iX (f1 kj)<|iD (iE 0) iJ) iJ)<|je 3)
 (ja (jn (eFn iP<|iD (iE 0)<|iD (iX (f1 kj)<|iD (iE 2) iJ) iJ)<|je 4)
 (ja (jn (eFn iP<|iD (iE 0)<|iD (iX (f1 kj)<|iD (iK j8 (iE 2)<|iE 4) iJ) iJ)<|je 5)
 (ja (jn (eFn iP<|iD (iE 0)<|iD (eC<|.int 6) iJ)<|je 6)
 (ja (qT (qK<|iK (pO false) (iE 6)<|eC<|.int 0)
 (jn (iK j8 (jQ<|iD (eC<|.bl true)<|iD (eC<|.int 0)<|iD (eC .jC)<|iD (eC<|.str<|PySem.Str.ofString "1")<|iD (iK jJ (iE 3)<|eC<|.int 1)<|iD (Bx vq<|eC<|.int 1) iJ)<|eFn iP<|iD (iE 0)<|iD (eC<|.int 6) iJ)<|Cp (iK j8 (iE 2)<|iE 4)<|iE 5)
 (qT (qK<|iK (pO false) (iE 6)<|eC<|.int 1)
 (jn (iK jJ (eC<|.int 1)<|iK wu (iK j8 (iK j8 (iE 2)<|iE 4)<|iE 5)<|iE 3)<|Cp (iK j8 (iE 2)<|iE 4)<|iE 5)
 (qT (KC (qK<|iK (pO false) (iE 6)<|eC<|.int 2)<|qK<|iK LQ (iX (f1 kj)<|iD (iK j8 (iE 2)<|iE 4) iJ)<|eC<|.int 1)
 (jn (Bx Dj<|iK j8 (iE 2)<|iE 4)<|Cp (iE 2)<|iE 4)
 (qT (qK<|iK (pO false) (iE 6)<|eC<|.int 3)
 (jn (jb [none] (jF<|iE 2) (je 0) jt<|jb [none] (jF<|iE 0) (je 0) jt<|iK jJ (iE 0)<|eC<|.int 1)<|je 2)
 (qT (qK<|iK (pO false) (iE 6)<|eC<|.int 4)
 (jn (jb [none] (jF<|iE 2) (je 0) jt<|jb [none] (jF<|iE 0) (je 0) jt<|iK yq (eC<|.int 2)<|iE 0)<|je 2)
 (jn (LS (iE 2) (sO<|eC<|.int 1) sN)<|je 2))))))
 (jR<|iE 2))))))
abbrev j7:ad->iM->R A:=lq mJ mH
meta abbrev vD:aE:=top 35
meta abbrev vd:am:=["_law_bag_here", "_law_first", "_law_second", "_law_way"]
meta abbrev vP:am:=["_law_bag_here", "_law_first", "_law_second"]
abbrev vG:Sm:=
 ja (jn (eFn iP<|iD (iE 0)<|iD (eC<|.int 8) iJ)<|je 3)
 (ja (qT (qK<|iK (pO false) (iE 3)<|eC<|.int 0)
 (jR<|tX<|iD (iK j8 (jQ<|iD (eC .jC)<|iD (eC<|.int 7)<|iD (eC<|.str<|PySem.Str.ofString "x")<|iD (iX (f1 pJ)<|iD (iE 1) iJ)<|iD (eC<|.bl true) iJ)<|eFn iP<|iD (iE 0)<|iD (eC<|.int 5) iJ)<|iD (iE 2) iJ)
 mE)
 (ja (qT (qK<|iK (pO false) (iE 3)<|eC<|.int 1)
 (jR<|tX<|iD (iE 1)<|iD (iK j8 (jQ<|iD (eC .jC)<|iD (eC<|.int 7)<|iD (eC<|.str<|PySem.Str.ofString "x")<|iD (iX (f1 pJ)<|iD (iE 2) iJ)<|iD (eC<|.bl true) iJ)<|eFn iP<|iD (iE 0)<|iD (eC<|.int 5) iJ) iJ)
 mE)
 (ja (qT (qK<|iK (pO false) (iE 3)<|eC<|.int 2)
 (jR<|tX<|iD (iK jJ (iE 1)<|jQ<|iD (jQ iJ) iJ)<|iD (iK jJ (iE 2)<|jQ<|iD (jQ iJ) iJ) iJ)
 mE)
 (ja (qT (qK<|iK (pO false) (iE 3)<|eC<|.int 3)
 (jR<|tX<|iD (LS (iE 1) sN<|sO<|Bx vq<|eC<|.int 1)<|iD (iE 2) iJ)
 mE)
 (ja (qT (qK<|iK (pO false) (iE 3)<|eC<|.int 4)
 (jR<|tX<|iD (jb [none] (jF<|iE 1) (je 0) jt<|iK jJ (jQ<|iD (iK jJ (iK j8 (iE 0)<|eC<|.int 0)<|iK sX (eC<|.int 10)<|eC<|.int 9) iJ)<|LS (iE 0) (sO<|eC<|.int 1) sN)<|iD (iE 2) iJ)
 mE)
 (ja (qT (qK<|iK (pO false) (iE 3)<|eC<|.int 5)
 (jR<|tX<|iD (iK jJ (iE 1)<|jQ<|iD (jQ<|iD (iK j8 (iK j8 (iE 1)<|Bx vq<|eC<|.int 1)<|eC<|.int 0) iJ) iJ)<|iD (iK jJ (iE 2)<|jQ<|iD (jQ<|iD (iK jJ (eC<|.int 1)<|iX (f1 BB)<|iD (jb [none] (jF<|iE 2) (je 0) jt<|iX (f1 kj)<|iD (iE 0) iJ) iJ) iJ) iJ) iJ)
 mE)
 (jR<|tX<|iD (iE 1)<|iD (eFn j7<|iD (iE 0)<|iD (iE 2) iJ) iJ)))))))
abbrev p7:ad->iM->R A:=lq vd vG
meta abbrev oM:aE:=top 36
meta abbrev oK:am:=["_law_thing"]
meta abbrev oO:am:=["_law_thing"]
abbrev oQ:Sm:=
 jR (rV (iX (f2 yp)<|iD (iE 0)<|iD (eC<|.ty "int") iJ)<|Nt<|iX (f2 yp)<|iD (iE 0)<|iD (eC<|.ty "bool") iJ)
abbrev kF:ad->iM->R A:=lq oK oQ
meta abbrev oN:aE:=top 37
meta abbrev oJ:am:=["_law_thing", "_law_row", "_law_k"]
meta abbrev mh:am:=["_law_thing"]
abbrev uW:Ic:=
 jF (iE 0)
abbrev p6:Sm:=
 ja (qT (Hh (sE<|sJ<|iX (f2 yp)<|iD (iE 1)<|iD (eC<|.ty "list") iJ)<|qK<|iK (pO false) (iE 1)<|jQ iJ)
 (jR<|eC<|.bl false)
 mE)
 (ja (qT (sE<|sJ<|iX (f1 BP)<|iD (jb [none] (jF<|iE 1) (je 0) jt<|rV (eFn kF<|iD (iE 0) iJ)<|LW Cn Cn (eC<|.int 1) (iE 0)<|iK sX (eC<|.int 10)<|eC<|.int 9) iJ)
 (jR<|eC<|.bl false)
 mE)
 (qT (qK<|iK (pO true) (iX (f1 qt)<|iD (iE 1) iJ)<|iE 1)
 (jR<|eC<|.bl false)
 mE))
abbrev pY:Ic:=
 vQ (eC<|.int 1) (iX (f1 kj)<|iD (iE 0) iJ)
abbrev pS:Sm:=
 ja (qT (qK<|iK LQ (iX (f1 kj)<|iD (iK j8 (iE 0)<|iE 2) iJ)<|iX (f1 kj)<|iD (iK j8 (iE 0)<|iK aSub (iE 2)<|eC<|.int 1) iJ)
 (jR<|eC<|.bl false)
 mE)
 (qT (sE<|sJ<|iX (f1 BP)<|iD (jb [none,some 0,some 2] (mY<|iX (f1 kj)<|iD (iK j8 (iE 0)<|iE 2) iJ) (je 0) jt<|iK LQ (iK j8 (iK j8 (iE 1)<|iE 2)<|iE 0)<|iK j8 (iK j8 (iE 1)<|iK aSub (iE 2)<|eC<|.int 1)<|iE 0) iJ)
 (jR<|eC<|.bl false)
 mE)
abbrev ow:Sm:=
 ja (qT (sE<|sJ<|iX (f2 yp)<|iD (iE 0)<|iD (eC<|.ty "list") iJ)
 (jR<|eC<|.bl false)
 mE)
 (ja (sF uW (je 1)
 p6)
 (ja (sF pY (je 2)
 pS)
 (jR<|eC<|.bl true)))
abbrev j_:ad->iM->R A:=lq oJ ow
meta abbrev pK:aE:=top 38
meta abbrev pM:am:=["_law_bag_here", "_law_rows", "_law_made", "_law_at", "_law_place", "_law_letter", "_law_other", "_law_spot", "_law_way"]
meta abbrev pP:am:=["_law_bag_here", "_law_rows"]
abbrev pB:Sm:=
 ja (jn (jb [none] (jF<|iE 1) (je 0) jt<|iX (f1 mW)<|iD (iE 0) iJ)<|je 2)
 (ja (jn (eFn iP<|iD (iE 0)<|iD (iX (f1 kj)<|iD (iE 2) iJ) iJ)<|je 3)
 (ja (jn (eFn iP<|iD (iE 0)<|iD (iX (f1 kj)<|iD (iK j8 (iE 2)<|iE 3) iJ) iJ)<|je 4)
 (ja (jn (iK j8 (iK j8 (iE 2)<|iE 3)<|iE 4)<|je 5)
 (ja (jn (eFn iP<|iD (iE 0)<|iD (iX (f1 kj)<|iD (iE 2) iJ) iJ)<|je 6)
 (ja (jn (eFn iP<|iD (iE 0)<|iD (iX (f1 kj)<|iD (iK j8 (iE 2)<|iE 6) iJ) iJ)<|je 7)
 (ja (jn (eFn iP<|iD (iE 0)<|iD (eC<|.int 5) iJ)<|je 8)
 (ja (qT (qK<|iK Nc (iE 8)<|eC<|.int 2)
 (jn (iK j8 (jQ<|iD (iK aSub (iE 5)<|eC<|.int 1)<|iD (iK jJ (iE 5)<|eC<|.int 1)<|iD (iK j8 (iK j8 (iE 2)<|iE 6)<|iE 7)<|iD (iK sX (eC<|.int 10)<|eC<|.int 9)<|iD (iK jJ (iK sX (eC<|.int 10)<|eC<|.int 9)<|eC<|.int 1)<|iD (eC<|.int 0) iJ)<|eFn iP<|iD (iE 0)<|iD (eC<|.int 6) iJ)<|Cp (iK j8 (iE 2)<|iE 3)<|iE 4)
 (qT (qK<|iK (pO false) (iE 8)<|eC<|.int 2)
 (rO<|Mx Dk (iK j8 (iE 2)<|iE 3)<|iD (iE 4) iJ)
 (qT (qK<|iK (pO false) (iE 8)<|eC<|.int 3)
 (rO<|Mx Ai (iK j8 (iE 2)<|iE 3)<|iD (iK jJ (iE 4)<|eFn iP<|iD (iE 0)<|iD (eC<|.int 2) iJ)<|iD (iK j8 (jQ<|iD (iE 5)<|iD (iK jJ (iE 5)<|eC<|.int 1)<|iD (iK j8 (iK j8 (iE 2)<|iE 6)<|iE 7) iJ)<|eFn iP<|iD (iE 0)<|iD (eC<|.int 3) iJ) iJ)
 (jn (tX<|iD (iK j8 (iK j8 (iE 2)<|iE 6)<|iE 7)<|iD (iE 5) iJ)<|Ft 2<|v_ (Cp (iK j8 (iE 2)<|iE 3)<|iE 4)<|v_ (Cp (iK j8 (iE 2)<|iE 6)<|iE 7) Em))))
 (jR<|iE 2))))))))
abbrev kM:ad->iM->R A:=lq pM pB
meta abbrev nB:aE:=top 39
meta abbrev nF:am:=["_law_rows"]
meta abbrev nh:am:=["_law_rows"]
abbrev nE:Sm:=
 jR (rV (eFn j_<|iD (iE 0) iJ)<|iK (pO false) (iX (f1 qt)<|iD (iX (f2 ID)<|iD (iE 0)<|iD (jQ iJ) iJ) iJ)<|iX (f1 mW)<|iD (iX (f2 wK)<|iD (eC<|.int 1)<|iD (iK jJ (iX (f1 BB)<|iD (jb [none] (jF<|iE 0) (je 0) jt<|iX (f1 kj)<|iD (iE 0) iJ) iJ)<|eC<|.int 1) iJ) iJ)
abbrev kI:ad->iM->R A:=lq nF nE
meta abbrev qg:aE:=top 40
meta abbrev qu:am:=["_law_first", "_law_second", "_law_good"]
meta abbrev qk:am:=["_law_first", "_law_second"]
abbrev qd:Sm:=
 ja (jn (rV (eFn j_<|iD (iE 0) iJ)<|eFn kI<|iD (iE 1) iJ)<|je 2)
 (ja (qT (Hh (sE<|sJ<|iE 2)<|qK<|iK (pO true) (jb [none] (jF<|iE 0) (je 0) jt<|iX (f1 kj)<|iD (iE 0) iJ)<|jb [none] (jF<|iE 1) (je 0) jt<|iX (f1 kj)<|iD (iE 0) iJ)
 (jR<|eFn jM<|iD (iE 0)<|iD (iE 1) iJ)
 mE)
 (jR<|iK (pO false) (eFn kC<|iD (HU kc<|iD (jb [none] (jF<|iE 0) (je 0) jt<|iX (f1 mW)<|iD (iE 0) iJ)<|iD (jb [none] (jF<|iE 1) (je 0) jt<|iX (f1 mW)<|iD (iE 0) iJ) iJ) iJ)<|tX<|iD (iE 0)<|iD (iE 1) iJ))
abbrev lA:ad->iM->R A:=lq qu qd
meta abbrev KP:aE:=top 41
meta abbrev KW:am:=["_law_script", "_law_k", "_law_bag_here", "_law_letters_here", "_law_first", "_law_second", "_law_step", "_law_one", "_law_other"]
meta abbrev N3:am:=["_law_script"]
abbrev Fb:Ic:=
 mY (eC<|.int 8)
abbrev EV:Sm:=
 ja (jn (eFn p7<|iD (iE 2)<|iD (iE 4)<|iD (iE 5) iJ)<|Ft 2<|v_ (je 7)<|v_ (je 8) Em)
 (ja (qT (Hh (sE<|sJ<|eFn jM<|iD (iE 7)<|iD (iE 8) iJ)<|qK<|iK (pO true) (HU kc<|iD (iE 4)<|iD (iE 5) iJ)<|iE 3)
 (jR<|eC<|.bl false)
 mE)
 (qT (Hh (sE<|sJ<|eFn lA<|iD (eFn kM<|iD (iE 2)<|iD (iE 4) iJ)<|iD (iE 5) iJ)<|sE<|sJ<|eFn lA<|iD (iE 4)<|iD (eFn kM<|iD (iE 2)<|iD (iE 5) iJ) iJ)
 (jR<|eC<|.bl false)
 mE))
abbrev FQ:Ic:=
 mY (iX (f2 Js)<|iD (eC<|.int 2)<|iD (iX (f2 LM)<|iD (iX (f1 kj)<|iD (iE 0) iJ)<|iD (eC<|.int 6) iJ) iJ)
abbrev Es:Sm:=
 ja (jn (eFn pZ<|iD (iE 0)<|iD (iE 1) iJ)<|je 2)
 (ja (jn (iK jJ (jQ<|iD (iK jJ (eC<|.int 1)<|eFn iP<|iD (iE 2)<|iD (eC<|.int 9) iJ)<|iD (iK jJ (eC<|.int 1)<|eFn iP<|iD (iE 2)<|iD (eC<|.int 9) iJ) iJ)<|eFn lJ<|iD (iE 2)<|iD (eC<|.int 10) iJ)<|je 3)
 (ja (jn (eFn kC<|iD (iE 3) iJ)<|Ft 2<|v_ (je 4)<|v_ (je 5) Em)
 (ja (sF Fb (je 6)
 EV)
 (ja (jn (jb [none,some 2] (mY<|iK jJ (eC<|.int 41)<|eFn iP<|iD (iE 2)<|iD (eC<|.int 20) iJ) (je 0) jt<|iK jJ (eC<|.int 1)<|eFn iP<|iD (iE 1)<|iD (eC<|.int 9) iJ)<|je 3)
 (ja (jn (eFn kC<|iD (iE 3) iJ)<|Ft 2<|v_ (je 4)<|v_ (je 5) Em)
 (qT (sE<|sJ<|eFn jM<|iD (iE 4)<|iD (iE 5) iJ)
 (jR<|eC<|.bl false)
 mE))))))
abbrev K8:Sm:=
 ja (sF FQ (je 1)
 Es)
 (jR<|eC<|.bl true)
abbrev zA:ad->iM->R A:=lq KW K8
section
variable {P:ah}{w:af}{K:aq}{mg:Str->be}{base:ak}{f:aj}{fd:FuncData}
def BF:FnScope tD tF (iU sR):=vK rfl rfl rfl ∅
def AR(F:Fun K "is_whole" "is_whole" sR f fd)(VM:mg "isinstance" = none)(VT:mg "bool" = none)(VU:mg "int" = none):FnOk P w K mg base qG 1 f fd tF (qR K 1 om):=wc (m:=sZ) F BF λd B outer s H E g=>
 iO (i9<|mR (iQ vR VM jN<|iF (iC 0)<|iF (vU VU Hx) iH)<|nj<|HK<|iQ vR VM jN<|iF (iC 0)<|iF (vU VT D5) iH)
def Aj:FnScope rR rj (iU qW):=vK rfl rfl rfl ∅
def zT(F:Fun K "is_letter" "is_letter" qW f fd)(V2:∃t,mg "GREATEST_LETTER" = some (.int 1000000000 t))(V3:qU P w K mg base 1 "is_whole" tF om):FnOk P w K mg base qG 2 f fd rj (qR K 1 lV):=wc (m:=rC) F Aj λg B outer s H E d=>
 iO (i9<|mR (Co V3 d<|iC 0)<|nj<|NI GQ GQ iL (iC 0)<|Bg V2.choose_spec)
def yy:FnScope qC qB (iU qf):=vK rfl rfl rfl ∅
def yv(F:Fun K "is_letters" "is_letters" qf f fd)(VN:mg "all" = none)(VM:mg "isinstance" = none)(VJ:mg "list" = none)(V4:qU P w K mg base 2 "is_letter" rj lV):FnOk P w K mg base qG 3 f fd qB (qR K 1 lZ):=wc (m:=qh) F yy λg B outer s H E d=>
 iO (i9<|mR (iQ vR VM jN<|iF (iC 0)<|iF (vU VJ lP) iH)<|nj<|iQ (yS rfl) VN vc<|iF (j4 (N:=["part"]) (cap:=[none]) rfl (ku [] rfl ∅ ∅ ∅ ∅ ∅ (nofun) trivial) (jS<|iC 0) (λ_ _ _ _=>iY (i:=0) (show(["part"]:am).Nodup by decide +kernel) rfl (Or.inl rfl)<|.inr rfl) (λ_ _ _ _=>jo) λ_ _ _ _=>Co V4 d<|iC 0) iH)
def wD:FnScope kU oq (iU oF):=vK rfl rfl rfl ∅
def wk(F:Fun K "is_table_row" "is_table_row" oF f fd)(VO:mg "sorted" = none)(VG:mg "len" = none)(V5:qU P w K mg base 3 "is_letters" qB lZ):FnOk P w K mg base qG 4 f fd oq (qR K 1 ju):=wc (m:=k_) F wD λg B outer s H E d=>
 iO (i9<|mR (Co V5 d<|iC 0)<|mR (nM (Gy d.units) (iQ jT VG jw<|iF (iC 0) iH) iL)<|nj<|nM (nA d.units) (iC 0)<|iQ wO VO rY<|iF (iC 0) iH)
def yz:FnScope qa qe (iU qx):=vK rfl rfl rfl ∅
def yE(F:Fun K "fits_under" "fits_under" qx f fd)(VN:mg "all" = none)(V6:mg "zip" = none)(VG:mg "len" = none):FnOk P w K mg base qG 1 f fd qe (qR K 2 kG):=wc (m:=qE) F yz λg B outer s H E d=>
 iO (i9<|mR (nM GQ (iQ jT VG jw<|iF (iC 0) iH)<|iQ jT VG jw<|iF (iC 1) iH)<|nj<|iQ (yS rfl) VN vc<|iF (j4 (N:=["high", "low"]) (cap:=[none,none]) rfl (ku [] rfl ∅ ∅ ∅ ∅ ∅ (nofun) trivial) (Qg V6 (iC 1)<|iC 0) (λ_ _ _ _=>rL rfl<|jX (iY (i:=0) (show(["high", "low"]:am).Nodup by decide +kernel) rfl (Or.inl rfl)<|.inr rfl)<|jX (iY (i:=1) (show(["high", "low"]:am).Nodup by decide +kernel) rfl (Or.inl rfl)<|.inr rfl) pq) (λ_ _ _ _=>jo) λ_ _ _ _=>nM (Mm d.units) (iC 0)<|iC 1) iH)
def Ck:FnScope nX sW (iU s_):=vK rfl rfl rfl ∅
def Ba(F:Fun K "is_table" "is_table" s_ f fd)(VN:mg "all" = none)(VM:mg "isinstance" = none)(VJ:mg "list" = none)(VI:mg "range" = none)(VG:mg "len" = none)(V7:qU P w K mg base 4 "is_table_row" oq ju)(V8:qU P w K mg base 1 "fits_under" qe kG):FnOk P w K mg base qG 5 f fd sW (qR K 1 j9):=wc (m:=n9) F Ck λg B outer s H E d=>
 iI (jV (AW.at<|v8 (mz<|l7<|iQ vR VM jN<|iF (iC 0)<|iF (vU VJ lP) iH)<|tu<|mz<|l7<|iQ (yS rfl) VN vc<|iF (j4 (N:=["row"]) (cap:=[none]) rfl (ku [] rfl ∅ ∅ ∅ ∅ ∅ (nofun) trivial) (jS<|iC 0) (λ_ _ _ _=>iY (i:=0) (show(["row"]:am).Nodup by decide +kernel) rfl (Or.inl rfl)<|.inr rfl) (λ_ _ _ _=>jo) λ_ _ _ _=>Co V7 d<|iC 0) iH)
 (iO<|i9 mX)
 jB)
 (iO<|i9<|iQ (yS rfl) VN vc<|iF (j4 (N:=["at", "thing"]) (cap:=[none,some 0]) rfl (ku ["thing"] rfl ∅ ∅ ∅ ∅ ∅ (bF.mpr ⟨by first|exact Or.inl rfl|exact Or.inr rfl,(nofun)⟩) ⟨rfl,by decide +kernel,trivial⟩) (zD VI iL<|iQ jT VG jw<|iF (iC 0) iH) (λ_ _ _ _=>iY (i:=0) (show(["at", "thing"]:am).Nodup by decide +kernel) rfl (Or.inl rfl)<|.inr rfl) (λ_ _ _ _=>jo) λ_ _ _ _=>qQ V8 d (i_ (iC 1)<|iC 0)<|i_ (iC 1)<|i7 zy (iC 0) iL) iH)
def GW:FnScope xD xJ (iU ye):=vK rfl rfl rfl ∅
def Gg(F:Fun K "copied" "copied" ye f fd)(VJ:mg "list" = none):FnOk P w K mg base qG 1 f fd xJ (qR K 1 rB):=wc (m:=xK) F GW λd B outer s H E g=>
 iO (i9<|j4 (N:=["row"]) (cap:=[none]) rfl (ku [] rfl ∅ ∅ ∅ ∅ ∅ (nofun) trivial) (jS<|iC 0) (λ_ _ _ _=>iY (i:=0) (show(["row"]:am).Nodup by decide +kernel) rfl (Or.inl rfl)<|.inr rfl) (λ_ _ _ _=>jo) λ_ _ _ _=>kK (rz rfl) VJ lP<|iF (iC 0) iH)
def KA:FnScope wN An (iU zW):=vK rfl rfl rfl ∅
def IW(F:Fun K "shape" "shape" zW f fd)(VG:mg "len" = none):FnOk P w K mg base qG 1 f fd An (qR K 1 oX):=wc (m:=wU) F KA λd B outer s H E g=>
 iO (i9<|j4 (N:=["row"]) (cap:=[none]) rfl (ku [] rfl ∅ ∅ ∅ ∅ ∅ (nofun) trivial) (jS<|iC 0) (λ_ _ _ _=>iY (i:=0) (show(["row"]:am).Nodup by decide +kernel) rfl (Or.inl rfl)<|.inr rfl) (λ_ _ _ _=>jo) λ_ _ _ _=>iQ jT VG jw<|iF (iC 0) iH)
def mZ:FnScope jW lG (iU lH):=vK rfl rfl rfl ∅
def qZ(F:Fun K "is_pair_of_tables" "is_pair_of_tables" lH f fd)(VO:mg "sorted" = none)(VJ:mg "list" = none)(VI:mg "range" = none)(VG:mg "len" = none)(V9:∃t,mg "MOST_LETTERS" = some (.int 40 t))(VW:qU P w K mg base 1 "shape" An oX)(VX:qU P w K mg base 5 "is_table" sW j9):FnOk P w K mg base qG 6 f fd lG (qR K 2 jm):=wc (m:=jU) F mZ λg B outer s H E d=>
 iI (jV (AW.at<|v8 (mz<|l7<|Co VX d<|iC 0)<|v8 (mz<|l7<|Co VX d<|iC 1)<|tu<|jz (MG d.units) (Co VW d<|iC 0)<|Co VW d<|iC 1)
 (iO<|i9 mX)
 jB)
 (iI (jc (i:=2) mZ.nd<|iQ wO VO rY<|iF (KZ (N:=["row", "number"]) (cap:=[none,none]) rfl (ku [] rfl ∅ ∅ ∅ ∅ ∅ (nofun) trivial) (jS<|iC 1) (λ_ _ _ _=>iY (i:=0) (show(["row", "number"]:am).Nodup by decide +kernel) rfl (Or.inl rfl)<|.inr rfl) (λ_ _ _ _=>jo) (λ_ _ _ _=>jS<|iC 0) (λ_ _ _ _=>iY (i:=1) (show(["row", "number"]:am).Nodup by decide +kernel) rfl (Or.inl rfl)<|.inr rfl) (λ_ _ _ _=>jo) λ_ _ _ _=>iC 1) iH)
 (iO<|i9<|mR (nM GQ (iQ jT VG jw<|iF (iC 2) iH)<|Bg V9.choose_spec)<|nj<|nM (nA d.units) (iC 2)<|kK (rz rfl) VJ lP<|iF (kK BU VI BI<|iF iL<|iF (i7 ko (iQ jT VG jw<|iF (iC 2) iH) iL) iH) iH))
def nI:FnScope oi oz (iU ou):=vK rfl rfl rfl ∅
def wB(F:Fun K "last_smaller" "last_smaller" ou f fd)(VG:mg "len" = none):FnOk P w K mg base qG 1 f fd oz (qR K 2 kT):=wc (m:=n_) F nI λd B outer s H E g=>
 iI (jc (i:=2) nI.nd<|i7 zy (iQ jT VG jw<|iF (iC 0) iH) iL)
 (iI (Ja 1000000 dw (jz Sz (i_ (iC 0)<|iC 2)<|iC 1)
 (iO<|O2 (i:=2) nI.nd iL MT))
 (iO<|i9<|iC 2))
def m7:FnScope tK tQ (iU tW):=vK rfl rfl rfl ∅
def AY(F:Fun K "take_out" "take_out" tW f fd)(VI:mg "range" = none)(V_:qU P w K mg base 1 "last_smaller" oz kT):FnOk P w K mg base qG 2 f fd tQ (qR K 2 oB):=wc (m:=sU) F m7 λg B outer s H E d=>
 iI (jc (i:=2) m7.nd<|O3 PySem.F.slot_list_pop PySem.F.type_list_pop QX<|i_ (iC 0)<|iC 1)
 (iI (qw dw rfl (yY VI (i7 zy (iC 1) iL) (vM iL)<|vM iL) (iY (i:=3) m7.nd)
 (iI (jc (i:=4) m7.nd<|qQ V_ d (i_ (iC 0)<|iC 3)<|iC 2)
 (iO<|ny (m_<|iF (iC 2)<|iF (i_ (i_ (iC 0)<|iC 3)<|iC 4) iH)<|rL rfl<|jX (pH (i_ (iC 0)<|iC 3)<|iC 4)<|jX (iY (i:=2) m7.nd) pq)))
 (iO<|i9<|iC 2))
def m5:FnScope p_ oh (iU sV):=vK rfl rfl rfl ∅
def Cd(F:Fun K "row_back" "row_back" sV f fd)(VH:ExcK K U "NoTables" C_NoTables)(Wa:mg "enumerate" = none)(VI:mg "range" = none)(VG:mg "len" = none)(Wb:qU P w K mg base 6 "is_pair_of_tables" lG jm)(Wc:qU P w K mg base 1 "copied" xJ rB)(Wd:qU P w K mg base 2 "take_out" tQ oB):FnOk P w K mg base (Hj P w) 7 f fd oh (QY K 2 kc):=fnX (m:=qb) F m5 λg B outer s H E d=>
 iI (jV (mz<|l7<|qQ Wb d (iC 0)<|iC 1)
 (iO<|G7 VH.n VH.q d.hd)
 jB)
 (iI (jc (i:=2) m5.nd<|Co Wc d<|iC 0)
 (iI (GV (λ_=>Rk) d.units (i:=3) (N:=["at", "row", "number"]) (cap:=[none,none,none]) m5.nd rfl (ku [] rfl ∅ ∅ ∅ ∅ ∅ (nofun) trivial) (P6 Wa<|iC 1) (λ_ _ _ _=>rL rfl<|jX (iY (i:=0) (show(["at", "row", "number"]:am).Nodup by decide +kernel) rfl (Or.inl rfl)<|.inr rfl)<|jX (iY (i:=1) (show(["at", "row", "number"]:am).Nodup by decide +kernel) rfl (Or.inl rfl)<|.inr rfl) pq) (λ_ _ _ _=>jo) (λ_ _ _ _=>jS<|iC 1) (λ_ _ _ _=>iY (i:=2) (show(["at", "row", "number"]:am).Nodup by decide +kernel) rfl (Or.inl rfl)<|.inr rfl) (λ_ _ _ _=>jo) (λ_ _ _ _=>iC 2) λ_ _ _ _=>iC 0)
 (iI (jc (i:=4) m5.nd<|jA iH)
 (iI (qw PassesOwn.leaving rfl (yY VI (iQ Pb VG jw<|iF (iC 3) iH) iL<|vM iL) (iY (i:=5) m5.nd)
 (iO<|qA<|x_ dF dG rm (iC 4)<|iF (qQ Wd d (iC 2)<|P_ d.units (iC 3)<|iC 5) iH))
 (iO<|i9<|IS<|iC 4)))))
def oH:FnScope uX vE (iU uU):=vK rfl rfl rfl ∅
def Cw(F:Fun K "_law_bag" "_law_bag" uU f fd)(VG:mg "len" = none):FnOk P w K mg base qG 1 f fd vE (qR K 2 pZ):=wc (m:=vC) F oH λg B outer s H E d=>
 iI (jc (i:=2) oH.nd iL)
 (iI (jV (jz (Mm d.units) (iC 1)<|iQ jT VG jw<|iF (iC 0) iH)
 (iO<|jc (i:=2) oH.nd<|i_ (iC 0)<|iC 1)
 jB)
 (iI (jc (i:=3) oH.nd iL)
 (iI (jV (jz Sz (iC 2)<|i7 yM iL iL)
 (iO<|jc (i:=3) oH.nd<|iC 2)
 jB)
 (iO<|i9<|jA<|iF (iC 3)<|iF (i7 yJ (i7 ko (i7 ko (iC 2)<|i7 Ec iL<|iC 1) iL) iL) iH))))
def uq:FnScope o_ kR (iU rH):=vK rfl rfl rfl ∅
def zQ(F:Fun K "_law_digit" "_law_digit" rH f fd):FnOk P w K mg base qG 1 f fd kR (qR K 2 iP):=wc (m:=oY) F uq λg B outer s H E d=>
 iI (jV (jz (Gy d.units) (i_ (iC 0) iL) iL)
 (iI (jc (i:=2) uq.nd<|i7 yJ (i_ (iC 0) iL)<|iC 1)
 (iI (ny (i7 KS (i_ (iC 0) iL)<|iC 1)<|pH (iC 0) iL)
 (iO<|i9<|iC 2)))
 jB)
 (iI (ny (i7 yJ (i7 ko (i7 Ec (i_ (iC 0) iL) iL) iL) iL)<|pH (iC 0) iL)
 (iO<|i9<|i7 yJ (i7 yJ (i7 Ec (i7 KS (i_ (iC 0) iL) iL) iL) iL)<|iC 1))
def jO:FnScope pC pI (iU pG):=vK rfl rfl rfl ∅
def xY(F:Fun K "_law_letters" "_law_letters" pG f fd)(VI:mg "range" = none)(VL:qU P w K mg base 1 "_law_digit" kR iP):FnOk P w K mg base qG 2 f fd pI (qR K 2 lJ):=wc (m:=pD) F jO λg B outer s H E d=>
 iI (jc (i:=2) jO.nd<|qQ VL d (iC 0)<|i7 ko (iC 1) iL)
 (iI (jc (i:=3) jO.nd<|qQ VL d (iC 0) iL)
 (iI (jc (i:=4) jO.nd<|i_ (jA<|iF iL<|iF iL<|iF (i7 yM iL iL)<|iF iL iH)<|iC 3)
 (iI (jc (i:=5) jO.nd<|jA iH)
 (iI (qw dw rfl (lU VI<|iC 2) (iY (i:=6) jO.nd)
 (iI (jc (i:=7) jO.nd<|i7 ko iL<|qQ VL d (iC 0)<|iC 4)
 (iI (jV (AW.at<|JO (jz (nA d.units) (iC 3) iL)<|EB<|jz (Uh d.units) (iC 7)<|iC 5)
 (iO<|jc (i:=7) jO.nd<|i7 ko iL<|iC 6)
 jB)
 (iO<|qA<|x_ dF dG rm (iC 5)<|iF (iC 7) iH))))
 (iO<|i9<|iC 5)))))
def oE:FnScope vF vI (iU vj):=vK rfl rfl rfl ∅
def Du(F:Fun K "_law_put" "_law_put" vj f fd)(VJ:mg "list" = none)(VI:mg "range" = none)(VG:mg "len" = none):FnOk P w K mg base qG 1 f fd vI (qR K 2 p9):=wc (m:=vH) F oE λg B outer s H E d=>
 iI (qz (i:=2) (N:=["_law_row"]) (cap:=[none]) oE.nd rfl (ku [] rfl ∅ ∅ ∅ ∅ ∅ (nofun) trivial) (jS<|iC 0) (λ_ _ _ _=>iY (i:=0) (show(["_law_row"]:am).Nodup by decide +kernel) rfl (Or.inl rfl)<|.inr rfl) (λ_ _ _ _=>jo) λ_ _ _ _=>kK (rz rfl) VJ lP<|iF (iC 0) iH)
 (iI (qw dw rfl (jS<|iC 2) (iY (i:=3) oE.nd)
 (iI (qz (i:=4) (N:=["_law_k", "_law_letter", "_law_row"]) (cap:=[none,some 1,some 3]) oE.nd rfl (ku ["_law_letter", "_law_row"] rfl ∅ ∅ ∅ ∅ ∅ (bF.mpr ⟨by first|exact Or.inl rfl|exact Or.inr rfl,(bF.mpr ⟨by first|exact Or.inl rfl|exact Or.inr rfl,(nofun)⟩)⟩) ⟨rfl,by decide +kernel,⟨rfl,by decide +kernel,trivial⟩⟩) (lU VI<|iQ jT VG jw<|iF (iC 3) iH) (λ_ _ _ _=>iY (i:=0) (show(["_law_k", "_law_letter", "_law_row"]:am).Nodup by decide +kernel) rfl (Or.inl rfl)<|.inr rfl) (λ_ _ _ _=>D_<|jz (Gy d.units) (i_ (iC 2)<|iC 0)<|iC 1) λ_ _ _ _=>iC 0)
 (iI (jV (jz (nA d.units) (iC 4)<|jA iH)
 (iI (qA<|x_ dF dG rm (iC 3)<|iF (iC 1) iH)
 (iO<|i9<|iC 2))
 jB)
 (iO<|ny (m_<|iF (iC 1)<|iF (i_ (iC 3)<|i_ (iC 4) iL) iH)<|rL rfl<|jX (pH (iC 3)<|i_ (iC 4) iL)<|jX (iY (i:=1) oE.nd) pq))))
 (iO<|i9<|i7 ko (iC 2)<|jA<|iF (jA<|iF (iC 1) iH) iH))
def kE:FnScope qq nQ (iU qc):=vK rfl rfl rfl ∅
def yr(F:Fun K "_law_tables" "_law_tables" qc f fd)(VI:mg "range" = none)(VG:mg "len" = none)(We:qU P w K mg base 1 "_law_put" vI p9):FnOk P w K mg base qG 2 f fd nQ (qR K 1 kC):=wc (m:=qp) F kE λg B outer s H E d=>
 iI (jc (i:=1) kE.nd<|jA iH)
 (iI (jc (i:=2) kE.nd<|jA iH)
 (iI (qw dw rfl (lU VI<|iQ jT VG jw<|iF (iC 0) iH) (iY (i:=3) kE.nd)
 (iI (jc (i:=4) kE.nd<|qQ We d (iC 1)<|i_ (iC 0)<|iC 3)
 (iI (jc (i:=5) kE.nd<|i_ (j4 (N:=["_law_j", "_law_first", "_law_more"]) (cap:=[none,some 1,some 4]) rfl (ku ["_law_first", "_law_more"] rfl ∅ ∅ ∅ ∅ ∅ (bF.mpr ⟨by first|exact Or.inl rfl|exact Or.inr rfl,(bF.mpr ⟨by first|exact Or.inl rfl|exact Or.inr rfl,(nofun)⟩)⟩) ⟨rfl,by decide +kernel,⟨rfl,by decide +kernel,trivial⟩⟩) (lU VI<|iQ jT VG jw<|iF (iC 4) iH) (λ_ _ _ _=>iY (i:=0) (show(["_law_j", "_law_first", "_law_more"]:am).Nodup by decide +kernel) rfl (Or.inl rfl)<|.inr rfl) (λ_ _ _ _=>D_<|AW.at<|v8 (jz (nA d.units) (iC 0)<|iQ jT VG jw<|iF (iC 1) iH)<|tu<|jz (Mm d.units) (iQ jT VG jw<|iF (i_ (iC 1)<|iC 0) iH)<|iQ jT VG jw<|iF (i_ (iC 2)<|iC 0) iH) λ_ _ _ _=>iC 0) iL)
 (iI (jV (jz (nA d.units) (iC 5)<|iQ jT VG jw<|iF (iC 2) iH)
 (iO<|qA<|x_ dF dG rm (iC 2)<|iF (jA iH) iH)
 jB)
 (iI (qA<|x_ dF dG rm (i_ (iC 2)<|iC 5)<|iF (i7 ko (iC 3) iL) iH)
 (iO<|jc (i:=1) kE.nd<|iC 4))))))
 (iO<|i9<|m_<|iF (iC 1)<|iF (iC 2) iH)))
def sq:FnScope xG wY (iU xr):=vK rfl rfl rfl ∅
def Gw(F:Fun K "_law_is" "_law_is" xr f fd)(VH:ExcK K U "NoTables" C_NoTables)(Wf:mg "TooMany" = some (.ref C_TooMany))(Wg:mg "NoPair" = some (.ref C_NoPair))(Wh:mg "NoNumber" = some (.ref C_NoNumber))(Wi:mg "NoWord" = some (.ref C_NoWord))(Wj:mg "NoName" = some (.ref C_NoName))(Wk:mg "NoRow" = some (.ref C_NoRow))(Wl:mg "NoText" = some (.ref C_NoText))(Wm:mg "NoTables" = some (.ref C_NoTables))(k_NoTables_TooMany:PySem.W.kitOne K (.ref C_NoTables) (.ref C_TooMany)=some false)(k_NoTables_NoPair:PySem.W.kitOne K (.ref C_NoTables) (.ref C_NoPair)=some false)(k_NoTables_NoNumber:PySem.W.kitOne K (.ref C_NoTables) (.ref C_NoNumber)=some false)(k_NoTables_NoWord:PySem.W.kitOne K (.ref C_NoTables) (.ref C_NoWord)=some false)(k_NoTables_NoName:PySem.W.kitOne K (.ref C_NoTables) (.ref C_NoName)=some false)(k_NoTables_NoRow:PySem.W.kitOne K (.ref C_NoTables) (.ref C_NoRow)=some false)(k_NoTables_NoText:PySem.W.kitOne K (.ref C_NoTables) (.ref C_NoText)=some false)(k_NoTables_NoTables:PySem.W.kitOne K (.ref C_NoTables) (.ref C_NoTables)=some true)(VM:mg "isinstance" = none)(Wn:mg "ValueError" = none):FnOkH P w K mg base 1 f fd wY (qR K 2 qX):=Vu (m:=yg) F sq λj B outer s H e oe C d g h0 k=>
 iI (jc (i:=2) sq.nd<|jA<|iF (rW Wi (tb:=[("NoTables",false)]) (bF.mpr ⟨⟨_,VH.n,VH.x,VH.cl,k_NoTables_NoWord⟩,(nofun)⟩) (iC 0) VM)<|iF (rW Wh (tb:=[("NoTables",false)]) (bF.mpr ⟨⟨_,VH.n,VH.x,VH.cl,k_NoTables_NoNumber⟩,(nofun)⟩) (iC 0) VM)<|iF (rW Wg (tb:=[("NoTables",false)]) (bF.mpr ⟨⟨_,VH.n,VH.x,VH.cl,k_NoTables_NoPair⟩,(nofun)⟩) (iC 0) VM)<|iF (rW Wf (tb:=[("NoTables",false)]) (bF.mpr ⟨⟨_,VH.n,VH.x,VH.cl,k_NoTables_TooMany⟩,(nofun)⟩) (iC 0) VM) iH)
 (iI (jc (i:=2) sq.nd<|i7 ko (iC 2)<|jA<|iF (rW Wm (tb:=[("NoTables",true)]) (bF.mpr ⟨⟨_,VH.n,VH.x,VH.cl,k_NoTables_NoTables⟩,(nofun)⟩) (iC 0) VM)<|iF (rW Wl (tb:=[("NoTables",false)]) (bF.mpr ⟨⟨_,VH.n,VH.x,VH.cl,k_NoTables_NoText⟩,(nofun)⟩) (iC 0) VM)<|iF (rW Wk (tb:=[("NoTables",false)]) (bF.mpr ⟨⟨_,VH.n,VH.x,VH.cl,k_NoTables_NoRow⟩,(nofun)⟩) (iC 0) VM)<|iF (rW Wj (tb:=[("NoTables",false)]) (bF.mpr ⟨⟨_,VH.n,VH.x,VH.cl,k_NoTables_NoName⟩,(nofun)⟩) (iC 0) VM) iH)
 (iI (jc (i:=3) sq.nd<|jA<|iF nN<|iF nN<|iF nN<|iF nN<|iF nN<|iF nN<|iF nN<|iF nN iH)
 (iO<|i9<|mR (PB Wn (tb:=[("NoTables",true)]) (bF.mpr ⟨⟨_,VH.n,VH.x,VH.cl,VH.v⟩,(nofun)⟩) (iC 0) VM)<|nj<|nM (nA d.units) (iC 2)<|Hl (N:=["_law_name", "_law_due"]) (cap:=[none,some 1]) g h0 k (ku ["_law_due"] rfl ∅ ∅ ∅ ∅ ∅ (bF.mpr ⟨by first|exact Or.inl rfl|exact Or.inr rfl,(nofun)⟩) ⟨rfl,by decide +kernel,trivial⟩) (iC 3) (λ_ _ _ _=>iY (i:=0) (show(["_law_name", "_law_due"]:am).Nodup by decide +kernel) rfl (Or.inl rfl)<|.inr rfl) (λ_ _ _ _=>jo) λ_ _ _ _=>nM (nA d.units) (iC 0)<|iC 1)))
def oG:FnScope pQ mT (iU pL):=vK rfl rfl rfl ∅
def xq(F:Fun K "_law_refused" "_law_refused" pL f fd)(hU:Cr K "UnderError" U)(mU:L2.mroIn K U=some P5)(VH:ExcK K U "NoTables" C_NoTables)(VY:mg "repr" = none)(VQ:PZ P w K mg base 7 "row_back" oh kc)(Wo:QD P w K mg base 1 "_law_is" wY qX):FnOk P w K mg base qG 8 f fd mT (qR K 2 jM):=wc (m:=pR) F oG λg B outer s H E d=>
 iI (jc (i:=2) oG.nd<|iQ (Ls d.units d.gs) VY E2<|iF (jA<|iF (iC 0)<|iF (iC 1) iH) iH)
 (iI (by(refine MA (i:=3) (cs:=["NoTables"]) ?hb ?hh oG.nd hU mU<|bF.mpr ⟨⟨_,VH.n,VH.r⟩,(nofun)⟩;(case hb=>exact(λ_ _=>JP<|O9 VQ (d.mono ⋯) (iF (iC 0)<|iF (iC 1) iH)<|kJ<|kJ rZ));(case hh=>exact(λ_ _ _ _ j=>iO<|i9<|mR (QF Wo (GZ d ⋯) rfl jy j (iF (iC 3)<|iF nN iH)<|kJ<|kJ rZ)<|nj<|nM (nA d.units) (iQ (Ls d.units d.gs) VY E2<|iF (jA<|iF (iC 0)<|iF (iC 1) iH) iH)<|iC 2))))
 (iO<|i9 mX))
def jq:FnScope mJ mO (iU mP):=vK rfl rfl rfl ∅
def uC(F:Fun K "_law_odd_second" "_law_odd_second" mP f fd)(VJ:mg "list" = none)(VP:mg "sum" = none)(VG:mg "len" = none)(VL:qU P w K mg base 1 "_law_digit" kR iP):FnOk P w K mg base qG 2 f fd mO (qR K 2 j7):=wc (m:=mH) F jq λg B outer s H E d=>
 iI (qz (i:=2) (N:=["_law_row"]) (cap:=[none]) jq.nd rfl (ku [] rfl ∅ ∅ ∅ ∅ ∅ (nofun) trivial) (jS<|iC 1) (λ_ _ _ _=>iY (i:=0) (show(["_law_row"]:am).Nodup by decide +kernel) rfl (Or.inl rfl)<|.inr rfl) (λ_ _ _ _=>jo) λ_ _ _ _=>kK (rz rfl) VJ lP<|iF (iC 0) iH)
 (iI (jc (i:=3) jq.nd<|iQ (HQ rfl) VP zR<|iF (j4 (N:=["_law_row"]) (cap:=[none]) rfl (ku [] rfl ∅ ∅ ∅ ∅ ∅ (nofun) trivial) (jS<|iC 2) (λ_ _ _ _=>iY (i:=0) (show(["_law_row"]:am).Nodup by decide +kernel) rfl (Or.inl rfl)<|.inr rfl) (λ_ _ _ _=>jo) λ_ _ _ _=>iQ jT VG jw<|iF (iC 0) iH) iH)
 (iI (jc (i:=4) jq.nd<|qQ VL d (iC 0)<|iQ jT VG jw<|iF (iC 2) iH)
 (iI (jc (i:=5) jq.nd<|qQ VL d (iC 0)<|iQ jT VG jw<|iF (i_ (iC 2)<|iC 4) iH)
 (iI (jc (i:=6) jq.nd<|qQ VL d (iC 0) iL)
 (iI (jV (jz (nA d.units) (iC 6) iL)
 (iO<|ny (i_ (jA<|iF mX<|iF iL<|iF (CI)<|iF nN<|iF (i7 ko (iC 3) iL)<|iF (vM iL) iH)<|qQ VL d (iC 0) iL)<|pH (i_ (iC 2)<|iC 4)<|iC 5)
 (iO (jV (jz (nA d.units) (iC 6) iL)
 (iO<|ny (i7 ko iL<|i7 yJ (i_ (i_ (iC 2)<|iC 4)<|iC 5)<|iC 3)<|pH (i_ (iC 2)<|iC 4)<|iC 5)
 (iO (jV (AW.at<|JO (jz (nA d.units) (iC 6) iL)<|EB<|jz (Gy d.units) (iQ jT VG jw<|iF (i_ (iC 2)<|iC 4) iH) iL)
 (iO<|ny (IS<|i_ (iC 2)<|iC 4)<|pH (iC 2)<|iC 4)
 (iO (jV (jz (nA d.units) (iC 6) iL)
 (iO<|qz (i:=2) (N:=["_law_row"]) (cap:=[none]) jq.nd rfl (ku [] rfl ∅ ∅ ∅ ∅ ∅ (nofun) trivial) (jS<|iC 2) (λ_ _ _ _=>iY (i:=0) (show(["_law_row"]:am).Nodup by decide +kernel) rfl (Or.inl rfl)<|.inr rfl) (λ_ _ _ _=>jo) λ_ _ _ _=>j4 (N:=["_law_number"]) (cap:=[none]) rfl (ku [] rfl ∅ ∅ ∅ ∅ ∅ (nofun) trivial) (jS<|iC 0) (λ_ _ _ _=>iY (i:=0) (show(["_law_number"]:am).Nodup by decide +kernel) rfl (Or.inl rfl)<|.inr rfl) (λ_ _ _ _=>jo) λ_ _ _ _=>i7 ko (iC 0) iL)
 (iO (jV (jz (nA d.units) (iC 6) iL)
 (iO<|qz (i:=2) (N:=["_law_row"]) (cap:=[none]) jq.nd rfl (ku [] rfl ∅ ∅ ∅ ∅ ∅ (nofun) trivial) (jS<|iC 2) (λ_ _ _ _=>iY (i:=0) (show(["_law_row"]:am).Nodup by decide +kernel) rfl (Or.inl rfl)<|.inr rfl) (λ_ _ _ _=>jo) λ_ _ _ _=>j4 (N:=["_law_number"]) (cap:=[none]) rfl (ku [] rfl ∅ ∅ ∅ ∅ ∅ (nofun) trivial) (jS<|iC 0) (λ_ _ _ _=>iY (i:=0) (show(["_law_number"]:am).Nodup by decide +kernel) rfl (Or.inl rfl)<|.inr rfl) (λ_ _ _ _=>jo) λ_ _ _ _=>i7 Ec iL<|iC 0)
 (iO<|jc (i:=2) jq.nd<|Kq (iC 2) (Ad iL) zS))))))))))
 (iO<|i9<|iC 2))))))
def xT:FnScope vd vP (iU vD):=vK rfl rfl rfl ∅
def Ds(F:Fun K "_law_odd" "_law_odd" vD f fd)(VZ:mg "tuple" = none)(VP:mg "sum" = none)(VG:mg "len" = none)(VL:qU P w K mg base 1 "_law_digit" kR iP)(Wq:qU P w K mg base 2 "_law_odd_second" mO j7):FnOk P w K mg base qG 3 f fd vP (qR K 3 p7):=wc (m:=vG) F xT λg B outer s H E d=>
 iI (jc (i:=3) xT.nd<|qQ VL d (iC 0) iL)
 (iI (jV (jz (nA d.units) (iC 3) iL)
 (iO<|i9<|m_<|iF (i_ (jA<|iF (CI)<|iF iL<|iF nN<|iF (kK (ES rfl) VZ Bk<|iF (iC 1) iH)<|iF mX iH)<|qQ VL d (iC 0) iL)<|iF (iC 2) iH)
 jB)
 (iI (jV (jz (nA d.units) (iC 3) iL)
 (iO<|i9<|m_<|iF (iC 1)<|iF (i_ (jA<|iF (CI)<|iF iL<|iF nN<|iF (kK (ES rfl) VZ Bk<|iF (iC 2) iH)<|iF mX iH)<|qQ VL d (iC 0) iL) iH)
 jB)
 (iI (jV (jz (nA d.units) (iC 3) iL)
 (iO<|i9<|m_<|iF (i7 ko (iC 1)<|jA<|iF (jA iH) iH)<|iF (i7 ko (iC 2)<|jA<|iF (jA iH) iH) iH)
 jB)
 (iI (jV (jz (nA d.units) (iC 3) iL)
 (iO<|i9<|m_<|iF (Kq (iC 1) zS<|Ad<|vM iL)<|iF (iC 2) iH)
 jB)
 (iI (jV (jz (nA d.units) (iC 3) iL)
 (iO<|i9<|m_<|iF (j4 (N:=["_law_row"]) (cap:=[none]) rfl (ku [] rfl ∅ ∅ ∅ ∅ ∅ (nofun) trivial) (jS<|iC 1) (λ_ _ _ _=>iY (i:=0) (show(["_law_row"]:am).Nodup by decide +kernel) rfl (Or.inl rfl)<|.inr rfl) (λ_ _ _ _=>jo) λ_ _ _ _=>i7 ko (jA<|iF (i7 ko (i_ (iC 0) iL)<|i7 yM iL iL) iH)<|Kq (iC 0) (Ad iL) zS)<|iF (iC 2) iH)
 jB)
 (iI (jV (jz (nA d.units) (iC 3) iL)
 (iO<|i9<|m_<|iF (i7 ko (iC 1)<|jA<|iF (jA<|iF (i_ (i_ (iC 1)<|vM iL) iL) iH) iH)<|iF (i7 ko (iC 2)<|jA<|iF (jA<|iF (i7 ko iL<|iQ (HQ rfl) VP zR<|iF (j4 (N:=["_law_row"]) (cap:=[none]) rfl (ku [] rfl ∅ ∅ ∅ ∅ ∅ (nofun) trivial) (jS<|iC 2) (λ_ _ _ _=>iY (i:=0) (show(["_law_row"]:am).Nodup by decide +kernel) rfl (Or.inl rfl)<|.inr rfl) (λ_ _ _ _=>jo) λ_ _ _ _=>iQ jT VG jw<|iF (iC 0) iH) iH) iH) iH) iH)
 jB)
 (iO<|i9<|m_<|iF (iC 1)<|iF (qQ Wq d (iC 0)<|iC 2) iH)))))))
def wg:FnScope oK oO (iU oM):=vK rfl rfl rfl ∅
def wG(F:Fun K "_law_is_whole" "_law_is_whole" oM f fd)(VM:mg "isinstance" = none)(VT:mg "bool" = none)(VU:mg "int" = none):FnOk P w K mg base qG 1 f fd oO (qR K 1 kF):=wc (m:=oQ) F wg λd B outer s H E g=>
 iO (i9<|mR (iQ vR VM jN<|iF (iC 0)<|iF (vU VU Hx) iH)<|nj<|HK<|iQ vR VM jN<|iF (iC 0)<|iF (vU VT D5) iH)
def ni:FnScope oJ mh (iU oN):=vK rfl rfl rfl ∅
def wo(F:Fun K "_law_is_table" "_law_is_table" oN f fd)(VM:mg "isinstance" = none)(VJ:mg "list" = none)(VN:mg "all" = none)(VO:mg "sorted" = none)(VI:mg "range" = none)(VG:mg "len" = none)(Wr:qU P w K mg base 1 "_law_is_whole" oO kF):FnOk P w K mg base qG 2 f fd mh (qR K 1 j_):=wc (m:=ow) F ni λg B outer s H E d=>
 iI (jV (mz<|l7<|iQ vR VM jN<|iF (iC 0)<|iF (vU VJ lP) iH)
 (iO<|i9 mX)
 jB)
 (iI (qw dw rfl (jS<|iC 0) (iY (i:=1) ni.nd)
 (iI (jV (AW.at<|v8 (mz<|l7<|iQ vR VM jN<|iF (iC 1)<|iF (vU VJ lP) iH)<|tu<|jz (nA d.units) (iC 1)<|jA iH)
 (iO<|i9 mX)
 jB)
 (iI (jV (mz<|l7<|iQ (yS rfl) VN vc<|iF (j4 (N:=["_law_letter"]) (cap:=[none]) rfl (ku [] rfl ∅ ∅ ∅ ∅ ∅ (nofun) trivial) (jS<|iC 1) (λ_ _ _ _=>iY (i:=0) (show(["_law_letter"]:am).Nodup by decide +kernel) rfl (Or.inl rfl)<|.inr rfl) (λ_ _ _ _=>jo) λ_ _ _ _=>mR (Co Wr d<|iC 0)<|nj<|NI GQ GQ iL (iC 0)<|i7 yM iL iL) iH)
 (iO<|i9 mX)
 jB)
 (iO (jV (jz (MG d.units) (iQ wO VO rY<|iF (iC 1) iH)<|iC 1)
 (iO<|i9 mX)
 jB)))))
 (iI (qw dw rfl (zD VI iL<|iQ jT VG jw<|iF (iC 0) iH) (iY (i:=2) ni.nd)
 (iI (jV (jz (Gy d.units) (iQ jT VG jw<|iF (i_ (iC 0)<|iC 2) iH)<|iQ jT VG jw<|iF (i_ (iC 0)<|i7 zy (iC 2) iL) iH)
 (iO<|i9 mX)
 jB)
 (iO (jV (mz<|l7<|iQ (yS rfl) VN vc<|iF (j4 (N:=["_law_j", "_law_thing", "_law_k"]) (cap:=[none,some 0,some 2]) rfl (ku ["_law_thing", "_law_k"] rfl ∅ ∅ ∅ ∅ ∅ (bF.mpr ⟨by first|exact Or.inl rfl|exact Or.inr rfl,(bF.mpr ⟨by first|exact Or.inl rfl|exact Or.inr rfl,(nofun)⟩)⟩) ⟨rfl,by decide +kernel,⟨rfl,by decide +kernel,trivial⟩⟩) (lU VI<|iQ jT VG jw<|iF (i_ (iC 0)<|iC 2) iH) (λ_ _ _ _=>iY (i:=0) (show(["_law_j", "_law_thing", "_law_k"]:am).Nodup by decide +kernel) rfl (Or.inl rfl)<|.inr rfl) (λ_ _ _ _=>jo) λ_ _ _ _=>nM (Gy d.units) (i_ (i_ (iC 1)<|iC 2)<|iC 0)<|i_ (i_ (iC 1)<|i7 zy (iC 2) iL)<|iC 0) iH)
 (iO<|i9 mX)
 jB))))
 (iO<|i9 mX)))
def jP:FnScope pM pP (iU pK):=vK rfl rfl rfl ∅
def xh(F:Fun K "_law_changed" "_law_changed" pK f fd)(VJ:mg "list" = none)(VG:mg "len" = none)(VL:qU P w K mg base 1 "_law_digit" kR iP):FnOk P w K mg base qG 2 f fd pP (qR K 2 kM):=wc (m:=pB) F jP λg B outer s H E d=>
 iI (qz (i:=2) (N:=["_law_row"]) (cap:=[none]) jP.nd rfl (ku [] rfl ∅ ∅ ∅ ∅ ∅ (nofun) trivial) (jS<|iC 1) (λ_ _ _ _=>iY (i:=0) (show(["_law_row"]:am).Nodup by decide +kernel) rfl (Or.inl rfl)<|.inr rfl) (λ_ _ _ _=>jo) λ_ _ _ _=>kK (rz rfl) VJ lP<|iF (iC 0) iH)
 (iI (jc (i:=3) jP.nd<|qQ VL d (iC 0)<|iQ jT VG jw<|iF (iC 2) iH)
 (iI (jc (i:=4) jP.nd<|qQ VL d (iC 0)<|iQ jT VG jw<|iF (i_ (iC 2)<|iC 3) iH)
 (iI (jc (i:=5) jP.nd<|i_ (i_ (iC 2)<|iC 3)<|iC 4)
 (iI (jc (i:=6) jP.nd<|qQ VL d (iC 0)<|iQ jT VG jw<|iF (iC 2) iH)
 (iI (jc (i:=7) jP.nd<|qQ VL d (iC 0)<|iQ jT VG jw<|iF (i_ (iC 2)<|iC 6) iH)
 (iI (jc (i:=8) jP.nd<|qQ VL d (iC 0) iL)
 (iI (jV (jz (Mm d.units) (iC 8) iL)
 (iO<|ny (i_ (jA<|iF (i7 zy (iC 5) iL)<|iF (i7 ko (iC 5) iL)<|iF (i_ (i_ (iC 2)<|iC 6)<|iC 7)<|iF (i7 yM iL iL)<|iF (i7 ko (i7 yM iL iL) iL)<|iF iL iH)<|qQ VL d (iC 0) iL)<|pH (i_ (iC 2)<|iC 3)<|iC 4)
 (iO (jV (jz (nA d.units) (iC 8) iL)
 (iO<|qA<|x_ PySem.F.slot_list_pop PySem.F.type_list_pop Nu (i_ (iC 2)<|iC 3)<|iF (iC 4) iH)
 (iO (jV (jz (nA d.units) (iC 8) iL)
 (iO<|qA<|x_ PySem.F.slot_list_insert PySem.F.type_list_insert Ky (i_ (iC 2)<|iC 3)<|iF (i7 ko (iC 4)<|qQ VL d (iC 0) iL)<|iF (i_ (jA<|iF (iC 5)<|iF (i7 ko (iC 5) iL)<|iF (i_ (i_ (iC 2)<|iC 6)<|iC 7) iH)<|qQ VL d (iC 0) iL) iH)
 (iO<|ny (m_<|iF (i_ (i_ (iC 2)<|iC 6)<|iC 7)<|iF (iC 5) iH)<|rL rfl<|jX (pH (i_ (iC 2)<|iC 3)<|iC 4)<|jX (pH (i_ (iC 2)<|iC 6)<|iC 7) pq))))))
 (iO<|i9<|iC 2))))))))
def uR:FnScope nF nh (iU nB):=vK rfl rfl rfl ∅
def vh(F:Fun K "_law_is_second" "_law_is_second" nB f fd)(VO:mg "sorted" = none)(VP:mg "sum" = none)(VJ:mg "list" = none)(VI:mg "range" = none)(VG:mg "len" = none)(VV:qU P w K mg base 2 "_law_is_table" mh j_):FnOk P w K mg base qG 3 f fd nh (qR K 1 kI):=wc (m:=nE) F uR λg B outer s H E d=>
 iO (i9<|mR (Co VV d<|iC 0)<|nj<|nM (nA d.units) (iQ wO VO rY<|iF (iQ (Qp rfl) VP zR<|iF (iC 0)<|iF (jA iH) iH) iH)<|kK (rz rfl) VJ lP<|iF (kK BU VI BI<|iF iL<|iF (i7 ko (iQ (HQ rfl) VP zR<|iF (j4 (N:=["_law_row"]) (cap:=[none]) rfl (ku [] rfl ∅ ∅ ∅ ∅ ∅ (nofun) trivial) (jS<|iC 0) (λ_ _ _ _=>iY (i:=0) (show(["_law_row"]:am).Nodup by decide +kernel) rfl (Or.inl rfl)<|.inr rfl) (λ_ _ _ _=>jo) λ_ _ _ _=>iQ jT VG jw<|iF (iC 0) iH) iH) iL) iH) iH)
def sQ:FnScope qu qk (iU qg):=vK rfl rfl rfl ∅
def yC(F:Fun K "_law_as_due" "_law_as_due" qg f fd)(VG:mg "len" = none)(VJ:mg "list" = none)(Ws:qU P w K mg base 3 "_law_is_second" nh kI)(VV:qU P w K mg base 2 "_law_is_table" mh j_)(VR:qU P w K mg base 8 "_law_refused" mT jM)(VS:qU P w K mg base 2 "_law_tables" nQ kC)(VQ:PZ P w K mg base 7 "row_back" oh kc):FnOk P w K mg base qG 9 f fd qk (qR K 2 lA):=wc (m:=qd) F sQ λg B outer s H E d=>
 iI (jc (i:=2) sQ.nd<|mR (Co VV d<|iC 0)<|nj<|Co Ws d<|iC 1)
 (iI (jV (AW.at<|v8 (mz<|l7<|iC 2)<|tu<|jz (MG d.units) (j4 (N:=["_law_row"]) (cap:=[none]) rfl (ku [] rfl ∅ ∅ ∅ ∅ ∅ (nofun) trivial) (jS<|iC 0) (λ_ _ _ _=>iY (i:=0) (show(["_law_row"]:am).Nodup by decide +kernel) rfl (Or.inl rfl)<|.inr rfl) (λ_ _ _ _=>jo) λ_ _ _ _=>iQ jT VG jw<|iF (iC 0) iH)<|j4 (N:=["_law_row"]) (cap:=[none]) rfl (ku [] rfl ∅ ∅ ∅ ∅ ∅ (nofun) trivial) (jS<|iC 1) (λ_ _ _ _=>iY (i:=0) (show(["_law_row"]:am).Nodup by decide +kernel) rfl (Or.inl rfl)<|.inr rfl) (λ_ _ _ _=>jo) λ_ _ _ _=>iQ jT VG jw<|iF (iC 0) iH)
 (iO<|i9<|qQ VR d (iC 0)<|iC 1)
 jB)
 (iO<|i9<|nM (nA d.units) (Co VS d<|U_ VQ d (j4 (N:=["_law_row"]) (cap:=[none]) rfl (ku [] rfl ∅ ∅ ∅ ∅ ∅ (nofun) trivial) (jS<|iC 0) (λ_ _ _ _=>iY (i:=0) (show(["_law_row"]:am).Nodup by decide +kernel) rfl (Or.inl rfl)<|.inr rfl) (λ_ _ _ _=>jo) λ_ _ _ _=>kK (rz rfl) VJ lP<|iF (iC 0) iH)<|j4 (N:=["_law_row"]) (cap:=[none]) rfl (ku [] rfl ∅ ∅ ∅ ∅ ∅ (nofun) trivial) (jS<|iC 1) (λ_ _ _ _=>iY (i:=0) (show(["_law_row"]:am).Nodup by decide +kernel) rfl (Or.inl rfl)<|.inr rfl) (λ_ _ _ _=>jo) λ_ _ _ _=>kK (rz rfl) VJ lP<|iF (iC 0) iH)<|m_<|iF (iC 0)<|iF (iC 1) iH))
def nK:FnScope KW N3 (iU KP):=vK rfl rfl rfl ∅
set_option smartUnfolding false in
theorem Po(F:Fun K "law" "law" KP f fd)(VI:mg "range" = none)(Wt:mg "max" = none)(Wu:mg "min" = none)(VG:mg "len" = none)(Wv:qU P w K mg base 1 "_law_bag" vE pZ)(VL:qU P w K mg base 1 "_law_digit" kR iP)(Ww:qU P w K mg base 2 "_law_letters" pI lJ)(VS:qU P w K mg base 2 "_law_tables" nQ kC)(Wx:qU P w K mg base 3 "_law_odd" vP p7)(VQ:PZ P w K mg base 7 "row_back" oh kc)(VR:qU P w K mg base 8 "_law_refused" mT jM)(V0:qU P w K mg base 9 "_law_as_due" qk lA)(V1:qU P w K mg base 2 "_law_changed" pP kM):FnOk P w K mg base qG 10 f fd N3 (qR K 1 zA):=wc (m:=K8) F nK λg B outer s H E d=>
 iI (qw dw rfl (lU VI<|iQ (PY rfl) Wt Oz<|iF iL<|iF (iQ (P7 rfl) Wu Qs<|iF (iQ jT VG jw<|iF (iC 0) iH)<|iF iL iH) iH) (iY (i:=1) nK.nd)
 (iI (jc (i:=2) nK.nd<|qQ Wv d (iC 0)<|iC 1)
 (iI (jc (i:=3) nK.nd<|i7 ko (jA<|iF (i7 ko iL<|qQ VL d (iC 2) iL)<|iF (i7 ko iL<|qQ VL d (iC 2) iL) iH)<|qQ Ww d (iC 2) iL)
 (iI (ny (Co VS d<|iC 3)<|rL rfl<|jX (iY (i:=4) nK.nd)<|jX (iY (i:=5) nK.nd) pq)
 (iI (qw dw rfl (lU VI iL) (iY (i:=6) nK.nd)
 (iI (ny (VA Wx d (iC 2) (iC 4)<|iC 5)<|rL rfl<|jX (iY (i:=7) nK.nd)<|jX (iY (i:=8) nK.nd) pq)
 (iI (jV (AW.at<|v8 (mz<|l7<|qQ VR d (iC 7)<|iC 8)<|tu<|jz (MG d.units) (U_ VQ d (iC 4)<|iC 5)<|iC 3)
 (iO<|i9 mX)
 jB)
 (iO (jV (AW.at<|v8 (mz<|l7<|qQ V0 d (qQ V1 d (iC 2)<|iC 4)<|iC 5)<|tu<|mz<|l7<|qQ V0 d (iC 4)<|qQ V1 d (iC 2)<|iC 5)
 (iO<|i9 mX)
 jB)))))
 (iI (qz (i:=3) (N:=["_law_j", "_law_bag_here"]) (cap:=[none,some 2]) nK.nd rfl (ku ["_law_bag_here"] rfl ∅ ∅ ∅ ∅ ∅ (bF.mpr ⟨by first|exact Or.inl rfl|exact Or.inr rfl,(nofun)⟩) ⟨rfl,by decide +kernel,trivial⟩) (lU VI<|i7 ko iL<|qQ VL d (iC 2) iL) (λ_ _ _ _=>iY (i:=0) (show(["_law_j", "_law_bag_here"]:am).Nodup by decide +kernel) rfl (Or.inl rfl)<|.inr rfl) (λ_ _ _ _=>jo) λ_ _ _ _=>i7 ko iL<|qQ VL d (iC 1) iL)
 (iI (ny (Co VS d<|iC 3)<|rL rfl<|jX (iY (i:=4) nK.nd)<|jX (iY (i:=5) nK.nd) pq)
 (iO (jV (mz<|l7<|qQ VR d (iC 4)<|iC 5)
 (iO<|i9 mX)
 jB)))))))))
 (iO<|i9 mX)
end
end K59
namespace Tb
abbrev fg (r:ae)(x:Int):Nat:=r.findIdx λy=>decide<|x<y
def Kr(r:ae)(x:Int):fg r x<=r.length:=f6
def yZ{r:ae}{x:Int}(h:fg r x≠r.length):fg r x<r.length:=Nat.lt_of_le_of_ne (Kr r x) h
abbrev put:List (ae)->Int->List (ae)
 | [],x=>[[x]]
 | r::rs,x=>if fg r x=r.length then(r++[x])::rs else r.set (fg r x) x::put rs (r.getD (fg r x) 0)
abbrev row:List (ae)->Int->Nat
 | [],_=>0
 | r::rs,x=>if fg r x=r.length then 0 else row rs (r.getD (fg r x) 0)+1
def oW{r:ae}{x:Int}(h:fg r x=r.length):put (r::rs) x=(r++[x])::rs:=bf h
def rD{r:ae}{x:Int}(h:fg r x≠r.length):put (r::rs) x=r.set (fg r x) x::put rs (r.getD (fg r x) 0):=bu h
def ud{r:ae}{x:Int}(h:fg r x=r.length):row (r::rs) x=0:=bf h
def xO{r:ae}{x:Int}(h:fg r x≠r.length):row (r::rs) x=row rs (r.getD (fg r x) 0)+1:=bu h
theorem Aq:∀(T:List<|ae) (x:Int),row T x<=T.length
 | [],_=>aL _
 | r::rs,x=>by
  by_cases h:fg r x=r.length
  ·rw[ud h];exact cj _
  ·rw[xO h,bB];exact eK<|Aq rs _
abbrev bump:ag->Nat->ag
 | [],_=>[1]
 | n::ns,0=>(n+1)::ns
 | n::ns,i+1=>n::bump ns i
theorem lC:∀(T:List<|ae) (x:Int),(put T x).map List.length=bump (T.map List.length) (row T x)
 | [],_=>rfl
 | r::rs,x=>by
  by_cases h:fg r x=r.length
  ·rw[oW h,ud h,bP,bP,aO];rfl
  ·rw[rD h,xO h,bP,bP,aZ,lC rs];rfl
theorem BE:∀(ns:ag) (i:Nat),i<=ns.length->(bump ns i).length=if i=ns.length then ns.length+1 else ns.length
 | [],i,h=>by
  have:i=0:=by simpa using h
  subst this;rfl
 | n::ns,0,_=>by rw[bu<|by simp];rfl
 | n::ns,i+1,h=>by
  have h':i<=ns.length:=Nat.le_of_succ_le_succ h;show(bump ns i).length+1=_;rw[BE ns i h'];by_cases e:i=ns.length
  ·rw[bf e,bf<|by rw[bB,e]];rfl
  ·rw[bu e,bu<|by rw[bB];lia];rfl
theorem D7:∀(ns:ag) (i j:Nat),i<=ns.length->(bump ns i).getD j 0=ns.getD j 0+if j=i then 1 else 0
 | [],i,j,h=>by
  have:i=0:=by simpa using h
  subst this
  cases j with
  | zero=>rfl
  | succ j=>simp[bump]
 | n::ns,0,j,_=>by cases j<;>simp[bump]
 | n::ns,i+1,j,h=>by
  cases j with
  | zero=>simp[bump]
  | succ j=>
   have:=D7 ns i j<|Nat.le_of_succ_le_succ h;simpa[bump]using this
theorem AX:∀(ns:ag) (i:Nat),(bump ns i).sum=ns.sum+1
 | [],_=>rfl
 | n::ns,0=>by simp[bump];lia
 | n::ns,i+1=>by simp[bump,AX ns i];lia
def zV(T:List<|ae)(x:Int):(put T x).length=if row T x=T.length then T.length+1 else T.length:=by
 have:=b_ List.length<|lC T x;rw[aH,BE _ _<|by rw[aH];exact Aq T x,aH]at this;exact this
def mq(T:List<|ae)(j:Nat):(T.map List.length).getD j 0=(T.getD j []).length:=by
 rw[aG,aG,aQ]
 cases T[j]?<;>rfl
def Qw(T:List<|ae)(x:Int)(j:Nat):((put T x).getD j []).length=(T.getD j []).length+if j=row T x then 1 else 0:=by
 rw[<- mq,lC,D7 _ _ _<|by rw[aH];exact Aq T x,mq]
def My(T:List<|ae)(x:Int):((put T x).map List.length).sum=(T.map List.length).sum+1:=by
 rw[lC,AX]
abbrev add:List (ae)->Nat->Int->List (ae)
 | [],_,k=>[[k]]
 | q::qs,0,k=>(q++[k])::qs
 | q::qs,i+1,k=>q::add qs i k
theorem sj:∀(Q:List<|ae) (i:Nat) (k:Int),(add Q i k).map List.length=bump (Q.map List.length) i
 | [],_,_=>rfl
 | q::qs,0,k=>by simp[add,bump]
 | q::qs,i+1,k=>by simp[add,bump,sj qs i k]
theorem DH:∀(Q:List<|ae) (k:Int),add Q Q.length k=Q++[[k]]
 | [],_=>rfl
 | q::qs,k=>by show q::add qs qs.length k=_;rw[DH qs k];rfl
theorem Ko:∀(Q:List<|ae) (i:Nat) (k:Int),i<Q.length->add Q i k=Q.set i (Q.getD i []++[k])
 | [],_,_,h=>absurd h (cU _)
 | q::qs,0,k,_=>rfl
 | q::qs,i+1,k,h=>by show q::add qs i k=_;rw[Ko qs i k<|Nat.lt_of_succ_lt_succ h];rfl
abbrev tabs (xs:ae):Nat->List (ae)×List (ae)
 | 0=>([],[])
 | i+1=>(put (tabs xs i).1<|xs.getD i 0,add (tabs xs i).2 (row (tabs xs i).1<|xs.getD i 0)<|(i:Int)+1)
theorem kZ(xs:ae):∀i,(tabs xs i).2.map List.length=(tabs xs i).1.map List.length
 | 0=>rfl
 | i+1=>by
  show(add _ _ _).map List.length=(put _ _).map List.length;rw[sj,lC,kZ xs i]
def A7(xs:ae)(i:Nat):(tabs xs i).2.length=(tabs xs i).1.length:=by
 have:=b_ List.length<|kZ xs i;simpa using this
theorem rg(xs:ae):∀i,((tabs xs i).1.map List.length).sum=i
 | 0=>rfl
 | i+1=>by
  show((put _ _).map List.length).sum=_;rw[My,rg xs i]
theorem tP:∀{ns:ag},(∀n∈ns,0<n)->ns.length<=ns.sum
 | [],_=>aL _
 | n::ns,h=>by
  have h1:=h n<|a_ ..;have d:=tP λm hm=>h m<|aN _ hm;rw[bB,gy];lia
theorem vB:∀(ns:ag) (j:Nat),ns.getD j 0<=ns.sum
 | [],j=>by simp
 | n::ns,0=>by simp
 | n::ns,j+1=>by have:=vB ns j;rw[gy];dsimp[List.getD_cons_succ];lia
theorem BW:∀{ns:ag}{i:Nat},(∀n∈ns,0<n)->∀n∈bump ns i,0<n
 | [],_,_,n,h=>by simp[bump]at h;lia
 | m::ns,0,hp,n,h=>by
  rcases bh.mp h with z|z
  ·lia
  ·exact hp n<|aN _ z
 | m::ns,i+1,hp,n,h=>by
  rcases bh.mp h with z|z
  ·rw[z];exact hp m (a_ ..)
  ·exact BW (λk d=>hp k<|aN _ d) n z
theorem Bf(xs:ae):∀i,∀n∈(tabs xs i).1.map List.length,0<n
 | 0=>λn h=>by cases h
 | i+1=>by
  show ∀n∈(put _ _).map List.length,0<n;rw[lC];exact BW<|Bf xs i
def tB(xs:ae)(i:Nat):(tabs xs i).1.length<=i/\∀j,((tabs xs i).1.getD j []).length<=i:=by
 refine⟨?_,λj=>?_⟩
 ·have:=tP<|Bf xs i;rw[rg,aH]at this;exact this
 ·have:=vB ((tabs xs i).1.map List.length) j;rw[mq,rg]at this;exact this
abbrev gs (r:ae)(x:Int):ag:=(List.range r.length).filter λk=>decide<|x<r.getD k 0
theorem EH:∀(r:ae) (x:Int),(fg r x=r.length->gs r x=[])/\(fg r x≠r.length->∃t,gs r x=fg r x::t)
 | [],x=>⟨λ_=>rfl,λh=>absurd rfl h⟩
 | y::r,x=>by
  have d:=EH r x;have e:gs (y::r) x=if x<y then 0::(gs r x).map Nat.succ else(gs r x).map Nat.succ:=by
   unfold gs;rw[bB,fY,gv,fK];by_cases h:x<y<;>simp[h]<;>rfl
  have e2:fg (y::r) x=if x<y then 0 else fg r x+1:=by
   unfold fg;rw[List.findIdx_cons];by_cases h:x<y<;>simp[h]
  rw[e,e2];by_cases h:x<y
  ·rw[bf h,bf h];exact⟨λz=>by simp at z,λ_=>⟨_,rfl⟩⟩
  ·rw[bu h,bu h];refine⟨λz=>?_,λz=>?_⟩
   ·rw[d.1<|by simpa using z];rfl
   ·obtain⟨t,f⟩:=d.2 (by simpa using z);exact⟨t.map Nat.succ,by rw[f];rfl⟩
end Tb
namespace Am
open PySem L2
abbrev Rows (S:iM):ag->List (ae)->Prop
 | [],[]=>True
 | r::rs,x::T=>iG S r=some (x.map .int)/\Rows S rs T
 | _,_=>False
theorem Rows.len:∀{rs:ag}{T:List<|ae},Rows S rs T->rs.length=T.length
 | [],[],_=>rfl
 | _::_,_::_,h=>b_ (·+1) (Rows.len h.2)
 | [],_::_,h=>h.elim
 | _::_,[],h=>h.elim
theorem Rows.get:∀{rs:ag}{T:List<|ae}{i:Nat}{r:Nat},Rows S rs T->rs[i]?=some r->i<T.length/\iG S r=some ((T.getD i []).map .int)
 | [],[],_,_,_,e=>by simp at e
 | r::rs,x::T,0,_,h,e=>by simp at e;subst e;exact⟨Nat.zero_lt_succ _,h.1⟩
 | r::rs,x::T,i+1,q,h,e=>by
  obtain⟨h1,d⟩:=Rows.get (i:=i) (r:=q) h.2 (by simpa using e);exact⟨gx h1,by simpa using d⟩
 | [],_::_,_,_,h,_=>h.elim
 | _::_,[],_,_,h,_=>h.elim
theorem Rows.mono:∀{rs:ag}{T:List<|ae},Rows S rs T->(∀r∈rs,∀xs,iG S r=some xs->iG S' r=some xs)->Rows S' rs T
 | [],[],_,_=>trivial
 | r::rs,x::T,h,k=>⟨k r (a_ ..) _ h.1,Rows.mono h.2 λq d=>k q<|aN _ d⟩
 | [],_::_,h,_=>h.elim
 | _::_,[],h,_=>h.elim
theorem Rows.mk:∀{rs:ag}{T:List<|ae},rs.length=T.length->(∀i,i<T.length->iG S (rs.getD i 0)=some ((T.getD i []).map .int))->Rows S rs T
 | [],[],_,_=>trivial
 | r::rs,x::T,hl,h=>⟨h 0<|Nat.zero_lt_succ _,Rows.mk (by simpa using hl) λi hi=>by have:=h (i+1)<|gx hi;simpa using this⟩
 | [],_::_,h,_=>by simp at h
 | _::_,[],h,_=>by simp at h
theorem Rows.set{S:iM}{ys:ae}:∀{rs:ag}{T:List<|ae}{i:Nat}{r:Nat},Rows S rs T->rs.Nodup->rs[i]?=some r->Rows (S.set r<|.lst<|ys.map .int) rs (T.set i ys)
 | [],[],_,_,_,_,e=>by simp at e
 | r::rs,x::T,0,q,h,nd,e=>by
  simp at e;subst e;refine⟨oV<|qH h.1,Rows.mono h.2 λq f xs e=>?_⟩;rw[kh<|show r≠q from λz=>(bJ.mp nd).1<|by rw[z];exact f];exact e
 | r::rs,x::T,i+1,q,h,nd,e=>by
  have d:rs[i]?=some q:=by simpa using e
  refine⟨?_,Rows.set h.2 (bJ.mp nd).2 d⟩;rw[kh<|show q≠r from λz=>(bJ.mp nd).1<|by rw[<- z];exact bg d];exact h.1
 | [],_::_,_,_,h,_,_=>h.elim
 | _::_,[],_,_,h,_,_=>h.elim
theorem Rows.app:∀{rs rs':ag}{T T':List<|ae},Rows S rs T->Rows S rs' T'->Rows S (rs++rs') (T++T')
 | [],_,[],_,_,h=>h
 | r::rs,_,x::T,_,h,h'=>⟨h.1,Rows.app h.2 h'⟩
 | [],_,_::_,_,h,_=>h.elim
 | _::_,_,[],_,h,_=>h.elim
theorem zk{n:Nat}:∀{rs rs':ag}{T T':List<|ae},Rows S rs T->Rows S rs' T'->sC (sM S<|n+2) (rs.map .ref) (rs'.map .ref)=some (decide<|T=T')
 | [],[],[],[],_,_=>rfl
 | [],_::_,[],_::_,_,_=>rfl
 | _::_,[],_::_,[],_,_=>rfl
 | r::rs,q::qs,x::T,y::T',h,h'=>by
  show(sM S (n+2) (.ref r)<|.ref q).bind _=_;have e:sM S (n+2) (.ref r) (.ref q)=some (decide<|x=y):=by
   show(iG S r).bind (λxs=>(iG S q).bind λys=>sC (sM S<|n+1) xs ys)=_;rw[h.1,bw,h'.1,bw];exact vn x y
  rw[e,bw]
  skip
  rw[zk h.2 h'.2]
  skip
  by_cases h1:x=y<;>by_cases d:T=T'<;>simp[h1,d]
 | [],_,_::_,_,h,_=>h.elim
 | _::_,_,[],_,h,_=>h.elim
 | _,[],_,_::_,_,h=>h.elim
 | _,_::_,_,[],_,h=>h.elim
structure Tab (S:iM)(n:Nat)(rs:ag)(T:List (ae)):Prop where
 top:iG S n=some (rs.map .ref)
 rows:Rows S rs T
 nd:(n::rs).Nodup
def Tab.len{n:Nat}{rs:ag}{T:List<|ae}(h:Tab S n rs T):rs.length=T.length:=h.rows.len
def Tab.kp{n:Nat}{c:Nat->Prop}(h:Tab S n rs T)(k:Kp c S S')(hc:∀r∈n::rs,¬c r):Tab S' n rs T:=
 ⟨k.lst _ _ (hc n<|a_ ..) h.top,h.rows.mono λr d xs e=>k.lst r xs (hc r<|aN _ d) e,h.nd⟩
def Tab.nP{n:Nat}(h:Tab S n rs T)(k:jL S S'):Tab S' n rs T:=h.kp k λ_ _ z=>z
def Rows.lt{S:iM}{rs:ag}(h:Rows S rs T):∀r∈rs,r<S.length:=λr d=>by
 obtain⟨i,hi,e⟩:=ff.mp d;exact qH (h.get<|by rw[aF hi,e]).2
def Tab.lt{S:iM}{n:Nat}(h:Tab S n rs T):∀r∈n::rs,r<S.length:=λr d=>by
 rcases bh.mp d with z|z
 ·rw[z];exact qH h.top
 ·exact h.rows.lt r z
def Tab.set{S:iM}{n:Nat}{T:List<|ae}{i r:Nat}{ys:ae}(h:Tab S n rs T)(hi:rs[i]?=some r):Tab (S.set r<|.lst<|ys.map .int) n rs (T.set i ys):=
 ⟨by rw[kh<|show r≠n from λz=>(bJ.mp h.nd).1<|by rw[<- z];exact bg hi];exact h.top,h.rows.set (bJ.mp h.nd).2 hi,h.nd⟩
def Tab.push{S:iM}{n:Nat}{ys:ae}(h:Tab S n rs T):Tab ((S++[O.lst<|ys.map .int]).set n<|.lst<|(rs++[S.length]).map .ref) n (rs++[S.length]) (T++[ys]):=by
 have hn:n<S.length:=h.lt n<|a_ ..;have f:∀r∈rs,n≠r:=λr d z=>(bJ.mp h.nd).1<|z ▸ d;refine⟨oV<|by rw[aO];simp;lia,Rows.app (h.rows.mono λr d xs e=>?_) ⟨?_,trivial⟩,?_⟩
 ·rw[kh<|f r d];exact jj e
 ·rw[kh ()];exact iR
 ·rw[bJ,dc];refine⟨λz=>?_,(bJ.mp h.nd).2,by simp,λa j b hb z=>?_⟩
  ·rcases bT.mp z with z|z
   ·exact f n z rfl
   ·have:n=S.length:=by simpa using z
    lia
  ·have g:b=S.length:=by simpa using hb
   have:=h.rows.lt a j
   lia
def Tab.nil{n:Nat}(h:iG S n=some []):Tab S n [] []:=⟨h,trivial,by simp⟩
theorem Af{s:Src}{g:Tg}{e:Ex}{T:ad->Prop}(P:Nat->iM->Prop)(it:Nat->A)(f:Nat->A)
  (hget:∀i S,i<s.k->P i S->s.get i S=some (it i)) (hfin:∀S,P s.k S->s.fin S=true)
  (step:∀i τ S,i<s.k->T τ->P i S->∃τ1 S1 S3,g (it i) τ S=.ok τ1 S1/\T τ1/\e τ1 S1=.ok (f i) S3/\P (i+1) S3) :
  ∀k i τ S,k+i=s.k->T τ->P i S->∃S',kg s g jt e k i τ S=.ok ((List.range' i k).map f) S'/\P s.k S'
 | 0,i,τ,S,hk,hT,hP=>by
  have:i=s.k:=()
  subst this;exact⟨S,by unfold kg;rw[bf<|hfin S hP];rfl,hP⟩
 | k+1,i,τ,S,hk,hT,hP=>by
  obtain⟨τ1,S1,S3,hg,d,q,j⟩:=step i τ S () hT hP;obtain⟨S',h1,m⟩:=Af P it f hget hfin step k (i+1) τ1 S3 () d j;refine⟨S',?_,m⟩;unfold kg;rw[hget i S () hP,i8,hg,R.jf];show(e τ1 S1).jD _=_;rw[q,R.jf,h1];rfl
theorem wX{s:Src}{g:Tg}{e:Ex}{T:ad->Prop}(P:Nat->ad->iM->Prop)
  (step:∀i acc τ S,i<s.k->T τ->P i acc S->∃x τ1 S1 y S3,s.get i S=some x/\g x τ S=.ok τ1 S1/\T τ1/\e τ1 S1=.ok y S3/\P (i+1) (acc++[y]) S3) (hfin:∀acc S,P s.k acc S->s.fin S=true) :
  ∀k i acc τ S,k+i=s.k->T τ->P i acc S->∃ys S',kg s g jt e k i τ S=.ok ys S'/\P s.k (acc++ys) S'
 | 0,i,acc,τ,S,hk,hT,hP=>by
  have:i=s.k:=()
  subst this;exact⟨[],S,by unfold kg;rw[bf<|hfin acc S hP],by rw[bM];exact hP⟩
 | k+1,i,acc,τ,S,hk,hT,hP=>by
  obtain⟨x,τ1,S1,y,S3,hx,hg,d,m,f⟩:=step i acc τ S () hT hP;obtain⟨ys,S',h1,j⟩:=wX P step hfin k (i+1) (acc++[y]) τ1 S3 () d f;refine⟨y::ys,S',?_,by rw[bZ]at j;exact j⟩;unfold kg;rw[hx,i8,hg,R.jf];show(e τ1 S1).jD _=_;rw[m,R.jf,h1];rfl
def nW{src:Ic}{S:iM}{n:Nat}{rs:ag}{T:List<|ae}(h:Tab S n rs T)(hs:src τ S=.ok (jv n (rs.map A.ref).length) S)(hl:T.length<=16777216) :
  ∃(qs:ag) (m:Nat) (S':iM),jb (none::cap) src (je 0) jt (iX (f1 mW)<|iD (iE 0) iJ) τ S=.ok (.ref m) S'/\Tab S' m qs T/\jL S S'/\∀r∈m::qs,S.length<=r:=by
 have f:=h.len;rw[aH]at hs;obtain⟨S',h1,G,F,C⟩:=Af (s:=jv n rs.length) (g:=je 0) (e:=iX (f1 mW)<|iD (iE 0) iJ) (T:=λq=>∃y,q=y::nL cap τ)
  (λi S1=>jL S S1/\S1.length=S.length+i/\∀j,j<i->iG S1 (S.length+j)=some ((T.getD j []).map .int)) (λi=>.ref<|rs.getD i 0) (λi=>.ref<|S.length+i)
  (λi S1 hi h9=>by
   obtain⟨k,_,_⟩:=h9;have hi:i<rs.length:=hi;show(iG S1 n).bind _=_;rw[k.lst n _ (λz=>z) h.top,bw,aQ,aF hi,aG,aF hi];rfl)
  (λS1 h9=>by
   obtain⟨k,_,_⟩:=h9;show(match iG S1 n with
    | some ys=>decide (ys.length<=rs.length)
    | none=>false)=true
   rw[k.lst n _ (λz=>z) h.top];simp)
  (λi q S1 hi ⟨y,hy⟩ ⟨k,d,B⟩=>by
   have hi:i<rs.length:=hi;subst hy;have e1:iG S1 (rs.getD i 0)=some ((T.getD i []).map .int):=k.lst _ _ (λz=>z) (h.rows.get<|by rw[aG,aF hi];rfl).2;refine⟨.ref (rs.getD i 0)::nL cap τ,S1,S1++[.lst<|(T.getD i []).map .int],rfl,⟨_,rfl⟩,?_,k.lay,by rw[aO,d];rfl,λj t=>?_⟩
   ·dsimp[i6,bools,e1,<- d]
   ·by_cases z:j<i
    ·exact jj (B j z)
    ·have:j=i:=()
     subst this;rw[<- d];exact iR)
  rs.length 0 (nL (none::cap) τ) S rfl ⟨_,rfl⟩ ⟨Kp.refl,rfl,λj t=>absurd t<|cU _⟩
 have F:S'.length=S.length+rs.length:=F;have C:∀j,j<rs.length->iG S' (S.length+j)=some ((T.getD j []).map .int):=C;refine⟨(List.range' 0 rs.length).map (S.length+·),S'.length,S'++[.lst<|((List.range' 0 rs.length).map (S.length+·)).map .ref],?_,⟨iR,Rows.mk (by simp[f]) λi hi=>?_,?_⟩,G.lay,λr B=>?_⟩
 ·unfold jb;rw[hs,R.jZ];show R.jD (kg (jv n rs.length) (je 0) jt _ rs.length 0 (nL (none::cap) τ) S) _=_;rw[h1,R.jf,jE<|by simp;lia,bY];rfl
 ·refine jj ?_;have:((List.range' 0 rs.length).map (S.length+·)).getD i 0=S.length+i:=by
   rw[aG,aQ,List.getElem?_range' ()];simp
  rw[this];exact C i ()
 ·rw[bJ];refine⟨λz=>?_,?_⟩
  ·obtain⟨j,t,e⟩:=bA.mp z;have:=List.mem_range'.mp t
   lia
  ·rw[gX,fX];exact(List.nodup_range' (step:=1)).imp λh z=>h ()
 ·rcases bh.mp B with z|z
  ·rw[z];lia
  ·obtain⟨j,t,e⟩:=bA.mp z
   lia
def Cs{n:Nat}:(List.range n).filter (λ_=>true)=List.range n:=cP.mpr λ_ _=>rfl
def mQ{src:Ic}{S:iM}{n:Nat}{rs:ag}{T:List<|ae}(h:Tab S n rs T)(hs:src τ S=.ok (jv n (rs.map A.ref).length) S)(hl:T.length<=1000000) :
  jb (none::cap) src (je 0) jt (iX (f1 kj)<|iD (iE 0) iJ) τ S=.ok (.ref S.length) (S++[.lst<|(T.map λr=>(r.length:Int)).map .int]):=by
 have d:=h.len;rw[aH]at hs;rw[vO (s:=jv n rs.length) hs (λi=>.ref<|rs.getD i 0) (λ_=>true) (λi=>.int ((T.getD i []).length:Int)) (λi hi=>by
   have hi:i<rs.length:=hi;show(iG S n).bind _=_;rw[h.top,bw,aQ,aF hi,aG,aF hi];rfl) (by
   show(match iG S n with
    | some ys=>decide (ys.length<=rs.length)
    | none=>false)=true
   rw[h.top];simp) (λ_ _=>rfl) (λi hi _=>by
   have hi:i<rs.length:=hi;have e1:iG S (rs.getD i 0)=some ((T.getD i []).map .int):=(h.rows.get<|by rw[aG,aF hi];rfl).2;dsimp[i6,bools,e1,aH])<|by show rs.length<=_;lia]
 show R.ok (A.ref S.length) (S++[O.lst<|List.map _<|List.filter (λ_=>true)<|List.range rs.length])=_;have f:(List.range rs.length).map (λi=>A.int ((T.getD i []).length:Int))=(T.map λr=>(r.length:Int)).map .int:=by
  rw[d,bY];refine List.ext_getElem (by rw[aH,aH,List.length_range]) λi h1 g=>?_;have hi:i<T.length:=by rw[aH]at g;exact g
  rw[List.getElem_map,List.getElem_map,List.getElem_range,aG,aF hi];rfl
 rw[Cs,<- f]
def Tab.cat{S:iM}{qs:ag}{ys:ae}(h:Tab S m qs U) :
  Tab (S++[O.lst<|ys.map .int]++[O.lst [.ref S.length]]++[O.lst<|qs.map .ref++[.ref S.length]]) (S++[O.lst<|ys.map .int]++[O.lst [.ref S.length]]).length (qs++[S.length]) (U++[ys]):=by
 refine⟨by rw[iR,b5];rfl,Rows.app (h.rows.mono λr _ xs e=>jj<|jj<|jj e) ⟨jj<|jj iR,trivial⟩,?_⟩;have d:=h.rows.lt;rw[bJ,dc];refine⟨λz=>?_,(bJ.mp h.nd).2,by simp,λa g b hb z=>?_⟩
 ·dsimp[aO,bB,gE]at z
  rcases bT.mp z with z|z
  ·have:=d _ z;lia
  ·have:=aW.mp z;lia
 ·have f:b=S.length:=by simpa using hb
  have:=d a g
  lia
def eq_nil{a:Nat}{xs:ad}(h:iG S a=some xs)(h':iG S b=some []):sM S 12 (.ref a) (.ref b)=some xs.isEmpty:=by
 show(iG S a).bind (λxs=>(iG S b).bind λys=>sC (sM S 11) xs ys)=_;rw[h,bw,h',bw]
 cases xs<;>rfl
def w_{a:Nat}{xs ys:ae}(h:iG S a=some (xs.map .int))(h':iG S b=some (ys.map .int)):sM S 12 (.ref a) (.ref b)=some (decide<|xs=ys):=by
 show(iG S a).bind (λxs=>(iG S b).bind λys=>sC (sM S 11) xs ys)=_;rw[h,bw,h',bw];exact vn xs ys
def tV{a:A}{k:Bool}(h:sM S 12 a b=some k):pO false a b S=.ok (.bl k) S:=by unfold pO;rw[h];rfl
def AH{a:A}{k:Bool}(h:sM S 12 a b=some k):pO true a b S=.ok (.bl<|!k) S:=by unfold pO;rw[h];rfl
def uD{xs:ad}{n:Nat}{src:Ic}{t:Te}{e:Ex}{S:iM}(hs:src τ S=.ok (jv n xs.length) S)(hx:iG S n=some xs)(p:A->Bool)(f:A->A)
  (ht:∀x∈xs,t (x::nL cap τ) S=.ok (p x) S) (he:∀x∈xs,p x=true->e (x::nL cap τ) S=.ok (f x) S) (hl:xs.length<=16777216) :
  jb (none::cap) src (je 0) t e τ S=.ok (.ref S.length) (S++[.lst<|(xs.filter p).map f]):=by
 have hm:∀i,i<xs.length->xs.getD i .unb∈xs:=λi hi=>by
  rw[aG,aF hi];exact cW hi
 rw[vO hs (λi=>xs.getD i .unb) (λi=>p<|xs.getD i .unb) (λi=>f<|xs.getD i .unb) (λi hi=>by
  have hi:i<xs.length:=hi;show(iG S n).bind _=_;rw[hx,bw,aG,aF hi];rfl) (by
   show(match iG S n with
    | some ys=>decide (ys.length<=xs.length)
    | none=>false)=true
   rw[hx];simp) (λi hi=>ht _<|hm i hi) (λi hi=>he _<|hm i hi) hl]
 have:=vt xs p f .unb;show R.ok _ (S++[O.lst<|((List.range xs.length).filter _).map _])=_;rw[this]
theorem range_one{r:Nat}:∀{N:Nat},r<N->(List.range N).filter (λj=>decide<|j=r)=[r]
 | 0,h=>absurd h (cU _)
 | N+1,h=>by
  rw[gF,List.filter_append];by_cases e:r=N
  ·subst e;have:(List.range r).filter (λj=>decide<|j=r)=[]:=List.filter_eq_nil_iff.mpr λa d=>by have:=cZ.mp d;simp;lia
   rw[this];simp
  ·rw[range_one<|show r<N by lia];have:([N]:ag).filter (λj=>decide<|j=r)=[]:=List.filter_eq_nil_iff.mpr λa d=>by rw[aW.mp d];simp;lia
   rw[this];rfl
def L5{r N:Nat}(h:r<N):((jG 0 (N:Int)).filter λk=>decide<|k=(r:Int)).map A.int=[.int r]:=by
 unfold jG;rw[fK,bY];have e:((N:Int)-0).toNat=N:=()
 rw[e];have e2:((λk:Int=>decide<|k=(r:Int)) ∘ λk:Nat=>(0:Int)+(k:Int))=λk:Nat=>decide (k=r):=by
  funext k
  show decide ((0:Int)+(k:Int)=(r:Int))=decide (k=r);by_cases z:k=r
  ·rw[aX z,aX ()]
  ·rw[aY z,aY ()]
 rw[e2,range_one h];simp
theorem L7:∀(T:List<|ae),(T.map λr=>(r.length:Int)).sum=((T.map List.length).sum:Nat)
 | []=>rfl
 | r::T=>by rw[bP,gy,L7 T,bP,gy];lia
def OV(r:ae)(x:Int):((jG 0 (r.length:Int)).filter λk=>decide<|x<r.getD k.toNat 0).map A.int=(Tb.gs r x).map λk:Nat=>A.int (k:Int):=by
 unfold jG Tb.gs;rw[fK,bY];have e:((r.length:Int)-0).toNat=r.length:=()
 rw[e];have e2:((λk:Int=>decide<|x<r.getD k.toNat 0) ∘ λk:Nat=>(0:Int)+(k:Int))=λk:Nat=>decide (x<r.getD k 0):=by
  funext k;simp
 rw[e2];refine gI λk _=>?_;simp
def getD_at{r:ae}{k:Nat}(h:k<r.length):r[k]?=some (r.getD k 0):=by rw[aG,aF h];rfl
def nZ{r:ae}{i:Int}{k:Nat}(h:i=k)(hk:k<r.length):ng (r.map A.int) i=some (.int<|r.getD k 0):=zO h<|getD_at hk
theorem F7:∀(bs:List Bool),A.Nl (bs.map .bl)=some bs
 | []=>rfl
 | b::bs=>by show(A.Nl<|bs.map .bl).map (b::·)=_;rw[F7 bs];rfl
end Am
namespace Sy
open Tb
abbrev A3 (r:ae):Prop:=r.Pairwise (·<=·)
abbrev Fits (u r:ae):Prop:=u.length<=r.length/\∀(j:Nat) (x y:Int),r[j]?=some x->u[j]?=some y->x<y
abbrev lK:List (ae)->Prop
 | []=>True
 | r::T=>r≠[]/\A3 r/\(∀u,T.head?=some u->Fits u r)/\lK T
def pX{r:ae}{x:Int}{j:Nat}{y:Int}(h:j<fg r x)(hy:r[j]?=some y):y<=x:=by
 obtain⟨d,e⟩:=aJ.mp hy;have:=f_ (xs:=r) (p:=λy=>decide<|x<y) (i:=j) h;rw[<- e];simpa using this
def BO{r:ae}{x y:Int}(hy:r[fg r x]?=some y):x<y:=by
 obtain⟨d,e⟩:=aJ.mp hy;have:=fh (xs:=r) (p:=λy=>decide<|x<y) (w:=d);rw[<- e];exact cS this
def Hy{r:ae}{x y:Int}{p:Nat}(hy:r[p]?=some y)(h:x<y):fg r x<=p:=by
 rcases ef p (fg r x)with z|z
 ·exact absurd (pX z hy) ()
 ·exact z
abbrev hd (T:List<|ae)(y:Int):ae:=match T with
 | []=>[y]
 | u::_=>if fg u y=u.length then u++[y]else u.set (fg u y) y
def JL(T:List<|ae)(y:Int):(put T y).head?=some (hd T y):=by
 cases T with
 | nil=>rfl
 | cons u T=>
  by_cases h:fg u y=u.length
  ·rw[oW h];show _=some (if _ then _ else _);rw[bf h];rfl
  ·rw[rD h];show _=some (if _ then _ else _);rw[bu h];rfl
def Jo{r:ae}{T:List<|ae}{p:Nat}{x y:Int}(hp:r[p]?=some y)(hxy:x<y)(hb:∀j z,j<p->r[j]?=some z->z<=x)(hf:∀u,T.head?=some u->Fits u r):Fits (hd T y) (r.set p x):=by
 obtain⟨k,t⟩:=aJ.mp hp;have f:∀(q:Nat) (z:Int),q<=p->(r.set p x)[q]?=some z->z<y:=λq z F d=>by
  rw[eg]at d;by_cases e:p=q
  ·rw[bf e,bf k]at d;have:=aR d;lia
  ·rw[bu e]at d;have:=hb q z () d;lia
 cases T with
 | nil=>
  refine⟨by rw[aZ];show 1<=_;lia,λj z w d hw=>?_⟩;have hw:([y]:ae)[j]?=some w:=hw
  cases j with
  | zero=>have:=aR hw;have:=f 0 z (cj _) d;lia
  | succ j=>simp at hw
 | cons u T=>
  obtain⟨C,hc⟩:=hf u rfl;have B:fg u y<=p:=by
   rcases ef p u.length with z|z
   ·have m:=aF z;exact Hy m (hc p y _ hp m)
   ·exact bX (Kr u y) z
  have g:∀(j:Nat) (z w:Int),(r.set p x)[j]?=some z->u[j]?=some w->z<w:=λj z w d hw=>by
   rw[eg]at d;by_cases e:p=j
   ·rw[bf e,bf k]at d;have:=aR d;have:=hc p y w hp (by rw[e];exact hw)
    lia
   ·rw[bu e]at d;exact hc j z w d hw
  show Fits (if fg u y=u.length then u++[y]else u.set (fg u y) y) (r.set p x);by_cases h:fg u y=u.length
  ·rw[bf h];refine⟨by rw[aZ,aO];show u.length+1<=_;lia,λj z w d hw=>?_⟩
   rcases ef j u.length with q|q
   ·rw[aT q]at hw;exact g j z w d hw
   ·rw[c9 q]at hw;have e:j-u.length=0:=by
     rcases gY (j-u.length)with z|z
     ·exact z
     ·rw[dB<|by show([y]:ae).length<=_;exact z]at hw;cases hw
    rw[e]at hw;have:=aR hw;have:=f j z () d
    lia
  ·rw[bu h];refine⟨by rw[aZ,aZ];exact C,λj z w d hw=>?_⟩;rw[eg]at hw;by_cases e:fg u y=j
   ·rw[bf e,bf<|yZ h]at hw;have:=aR hw;have:=f j z () d
    lia
   ·rw[bu e]at hw;exact g j z w d hw
def Bs{r:ae}{x:Int}(h:A3 r)(hx:∀y∈r,y<=x):A3 (r++[x]):=by
 unfold A3;rw[List.pairwise_append];exact⟨h,by simp,λa d b hb=>by rw[aW.mp hb];exact hx a d⟩
def Nf{r:ae}{x:Int}(h:fg r x=r.length):∀y∈r,y<=x:=λy hy=>by
 obtain⟨j,d,e⟩:=ff.mp hy;exact pX (r:=r) (j:=j) ()<|by rw[aF d,e]
def LY{r:ae}{x:Int}(h:A3 r)(hf:fg r x≠r.length):A3 (r.set (fg r x) x):=by
 have d:=yZ hf;have k:=BO<|aF d;unfold A3 at h ⊢;rw[dX]at h ⊢;intro i j hi f g;rw[aZ]at hi f;rw[List.getElem_set,List.getElem_set];by_cases e1:fg r x=i
 ·rw[bf e1,bu ()];have:=h (fg r x) j d f ()
  lia
 ·rw[bu e1];by_cases e2:fg r x=j
  ·rw[bf e2];exact pX (j:=i) () (aF hi)
  ·rw[bu e2];exact h i j hi f g
theorem B9:∀{T:List<|ae}{x:Int},lK T->lK (put T x)
 | [],x,_=>⟨by simp,by show List.Pairwise _ _;simp,(λu h=>by cases h),trivial⟩
 | r::T,x,h=>by
  obtain⟨h1,m,g,q⟩:=h;by_cases hf:fg r x=r.length
  ·rw[oW hf];refine⟨by simp,Bs m<|Nf hf,λu d=>?_,q⟩;obtain⟨C,g2⟩:=g u d;refine⟨by rw[aO];lia,λj a b k hb=>?_⟩;have t:=(aJ.mp hb).1;rw[aT ()]at k;exact g2 j a b k hb
  ·rw[rD hf];have f:=yZ hf;have hy:r[fg r x]?=some (r.getD (fg r x) 0):=by rw[aG,aF f];rfl
   refine⟨λz=>h1<|by simpa using z,LY m hf,λu d=>?_,B9 q⟩;rw[JL]at d;rw[<- aR d];exact Jo hy (BO hy) (λj z t B=>pX t B) g
theorem yN(xs:ae):∀i,i<=xs.length->(tabs xs i).1=(xs.take i).foldl put []
 | 0,_=>rfl
 | i+1,h=>by
  show put (tabs xs i).1 (xs.getD i 0)=_;rw[yN xs i (),List.take_succ_eq_append_getElem (),List.foldl_append,aG,aF ()];rfl
theorem yU:∀(xs:ae) {T:List<|ae},lK T->lK (xs.foldl put T)
 | [],_,h=>h
 | x::xs,_,h=>yU xs<|B9 h
end Sy
namespace K59
open PySem L2 Am
abbrev nV (S:iM)(b:Nat):Prop:=∃g st:Int,iG S b=some [.int g,.int st]/\0<=g/\0<=st/\st<4294967296
def nV.kp{c:Nat->Prop}(h:nV S b)(k:Kp c S S')(hb:¬c b):nV S' b:=by
 obtain⟨g,st,e,q⟩:=h;exact⟨g,st,k.lst b _ hb e,q⟩
def nV.lt{S:iM}(h:nV S b):b<S.length:=by obtain⟨_,_,e,_⟩:=h;exact qH e
def MI{S:iM}{ns:ae}{k:Int}(h0:0<=k)(h1:k<=100):∃S',pZ [.frz<|ns.map .int,.int k] S=.ok (.ref S.length) S'/\nV S' S.length/\jL S S':=by
 have e3:sX (.int 10) (.int 18)=λS=>R.ok (.int 1000000000000000000) S:=by
  funext S;exact kq ⟨by decide,by decide,by decide⟩
 have f:∀x:Int,wu (.int x) (.int 2147483647)=λS=>R.ok (.int<|x % 2147483647) S:=λx=>by funext S;exact zq ⋯
 have t:∀x:Int,yq (.int 7919) (.int x)=λS=>R.ok (.int<|7919 * x) S:=λx=>by funext S;exact Ga ⋯ ⋯
 have m:∀x:Int,0<=x % 2147483647:=λx=>fL _ ⋯;have q:∀x:Int,x % 2147483647<4294967296:=λx=>by have:=eW x (show(0:Int)<2147483647 by decide);lia
 have j:∀d:Int,∃S',((RS.seq (.nx [A.frz<|ns.map .int,.int k,.int d,.unb] S) (ja (jn (eC<|.int 0)<|je 3)
  (ja (qT (qK<|iK Rl (iE 2)<|iK sX (eC<|.int 10)<|eC<|.int 18) (jn (iE 2)<|je 3)<|mE)
  (jR<|jQ<|iD (iE 3)<|iD (iK wu (iK jJ (iK jJ (iE 2)<|iK yq (eC<|.int 7919)<|iE 1)<|eC<|.int 13)<|eC<|.int 2147483647)<|iJ)))).end=.ok (.ref S.length) S')/\nV S' S.length/\jL S S':=by
  intro d;by_cases hc:1000000000000000000<=d
  ·dsimp[i6,bools,e3,f,t,aX hc];exact⟨_,rfl,⟨_,_,iR,(),m _,q _⟩,Kp.refl.lay⟩
  ·dsimp[i6,bools,e3,f,t,aY hc];exact⟨_,rfl,⟨_,_,iR,iB 0,m _,q _⟩,Kp.refl.lay⟩
 unfold pZ vC uX;dsimp[i6,bools,jI,Nat.reduceAdd,Nat.reduceSub,aH];by_cases g:k<(ns.length:Int)
 ·have hn:k.toNat<ns.length:=()
  have z:ng (ns.map A.int) k=some (.int ns[k.toNat]):=zO (k:=k.toNat) ()<|aF hn;rw[aX g];dsimp[i6,bools,z];have:=j ns[k.toNat];simpa only [i6,bools]using this
 ·rw[aY g];dsimp[i6,bools];have:=j 0;simpa only [i6,bools]using this
def digit{m:Int}(h:nV S b)(h1:1<=m)(h2:m<1073741824):∃d S',iP [.ref b,.int m] S=.ok (.int d) S'/\0<=d/\d<m/\nV S' b/\Kp (·=b) S S':=by
 obtain⟨g,st,z,hg,hs,t⟩:=h;have hb:=qH z;have i0:wV 2 0=some 0:=qI rfl ⋯;have F:wV 2 1=some 1:=qI rfl ⋯;have k:∀d q f:Int,0<=d->d<m->0<=q->0<=f->f<4294967296->iP [.ref b,.int m] S=.ok (.int d) (S.set b<|.lst [.int q,.int f])->∃d S',iP [.ref b,.int m] S=.ok (.int d) S'/\0<=d/\d<m/\nV S' b/\Kp (·=b) S S':=
  λd q f B C a3 G J e=>⟨d,_,e,B,C,⟨q,f,oV hb,a3,G,J⟩,Kp.refl.set<|.inl rfl⟩
 by_cases j:0<g
 ·refine k (g % m) (g / m) st (fL _ ()) (eW _ ()) (Int.ediv_nonneg hg ()) hs t ?_;unfold iP oY o_;rw[wJ];simp[z,FG,N7,j,zq<|show 0<m by lia,Jv (show 0<m by lia) h2,i0]
 ·have e1:0<=(st * 48271+11) % 2147483647:=fL _ ⋯;have e2:(st * 48271+11) % 2147483647<2147483647:=eW _ ⋯;have e3:0<=(st * 48271+11) % 2147483647 / 8:=()
  refine k ((st * 48271+11) % 2147483647 / 8 * 69621 % 2147483629 % m) g ((st * 48271+11) % 2147483647) (fL _ ()) (eW _ ()) hg e1 () ?_;unfold iP oY o_;rw[wJ];simp[z,FG,N7,j,F,Ga (show -18446744073709551616<st by lia) (),zq<|show(0:Int)<2147483647 by decide,oV hb,Jv (show(0:Int)<8 by decide) ⋯,Ga (show -18446744073709551616<(st * 48271+11) % 2147483647 / 8 by lia) (),zq<|show(0:Int)<2147483629 by decide,zq<|show 0<m by lia]
theorem B8{v:Int}:∀(xs:ae),∃b,Su S (.int v) (xs.map .int)=some b
 | []=>⟨_,rfl⟩
 | x::xs=>by
  obtain⟨b,e⟩:=B8 (S:=S) (v:=v) xs;refine⟨(x == v) || b,?_⟩;show(sM S 12 (.int x)<|.int v).bind _=_;show Option.bind (some<|x == v) _=_;show Option.map _ (Su S (.int v)<|xs.map .int)=_;rw[e];rfl
def Lm:sX (.int 10) (.int 9)=λS=>R.ok (.int 1000000000) S:=by funext S;exact kq ⟨by decide,by decide,by decide⟩
def Dt{S:iM}{most:Int}(h:nV S b)(h0:0<=most)(h1:most<=100) :
  ∃(xs:ae) (L:Nat) (S':iM),lJ [.ref b,.int most] S=.ok (.ref L) S'/\iG S' L=some (xs.map .int)/\(xs.length:Int)<=most/\(∀x∈xs,1<=x/\x<=1000000000)/\nV S' b/\Kp (·=b) S S'/\S.length<=L:=by
 obtain⟨d,S1,e1,d0,d1,U,k1⟩:=digit (m:=most+1) h () ();obtain⟨w,S2,e2,w0,w1,hb2,k2⟩:=digit (m:=4) U ⋯ ⋯;obtain⟨base,t,b0,b1⟩:∃base:Int,ng ([.int 3,.int 6,.int 1000000000,.int 40]:ad) w=some (.int base)/\1<=base/\base<=1000000000:=by
  rcases(by lia:w=0\/w=1\/w=2\/w=3)with z|z|z|z<;>subst z
  ·exact⟨3,rfl,by decide,by decide⟩
  ·exact⟨6,rfl,by decide,by decide⟩
  ·exact⟨1000000000,rfl,by decide,by decide⟩
  ·exact⟨40,rfl,by decide,by decide⟩
 have hbS:=h.lt;have l1:=k1.len;have l2:=k2.len;unfold lJ pD pC;dsimp[i6,bools,jI,Nat.reduceAdd,Nat.reduceSub,e1,e2,Lm,t];generalize hS3:S2++[O.lst [.int 3,.int 6,.int 1000000000,.int 40]]=S3;have k3:Kp (·=b) S S3:=by rw[<- hS3];exact(k1.trans k2).lay
 have Z:nV S3 b:=by rw[<- hS3];exact hb2.kp (c:=λ_=>False) Kp.refl.lay λz=>z
 have l3:S.length<=S3.length:=k3.len;have nb:S3.length≠b:=()
 refine ug (lo:=0) (hi:=d) (S1:=S3++[.lst []]) (mV (by dsimp[i6,bools])<|lF () ())
  (λi τ S4=>∃(xs:ae) (a6 F:A),τ=[.ref b,.int most,.int d,.int w,.int base,.ref S3.length,a6,F]/\iG S4 S3.length=some (xs.map .int)/\xs.length=i/\(∀x∈xs,1<=x/\x<=1000000000)/\nV S4 b/\Kp (·=b) S S4)
  (λr=>∃(xs:ae) (L:Nat) (S':iM),RS.end (RS.seq r _)=.ok (.ref L) S'/\iG S' L=some (xs.map .int)/\(xs.length:Int)<=most/\(∀x∈xs,1<=x/\x<=1000000000)/\nV S' b/\Kp (·=b) S S'/\S.length<=L)
  ⟨[],_,_,rfl,iR,rfl,(λ_ h=>by cases h),Z.kp (c:=λ_=>False) Kp.refl.lay λz=>z,k3.lay⟩ ?_ ?_
 ·rintro i τ S4 hi ⟨xs,a6,F,rfl,J,j,hx,k,P⟩;left;obtain⟨e,S5,e5,f0,f1',V,k5⟩:=digit (m:=base) k b0 ();have f:=k5.lst _ _ nb J;have lL:=qH f;have B:∀l:Int,1<=l->l<=1000000000->∃(ys:ae) (a6 F:A),[A.ref b,.int most,.int d,.int w,.int base,.ref S3.length,.int<|0+(i:Int),.int l]=[.ref b,.int most,.int d,.int w,.int base,.ref S3.length,a6,F]/\iG (S5.set S3.length<|.lst<|xs.map A.int++[.int l]) S3.length=some (ys.map .int)/\ys.length=i+1/\(∀x∈ys,1<=x/\x<=1000000000)/\nV (S5.set S3.length<|.lst<|xs.map A.int++[.int l]) b/\Kp (·=b) S (S5.set S3.length<|.lst<|xs.map A.int++[.int l]):=λl N Y=>by
   refine⟨xs++[l],_,_,rfl,by rw[oV lL,b5];rfl,by rw[aO,j];rfl,λx W=>?_,?_,(P.trans k5).set<|.inr l3⟩
   ·rcases bT.mp W with z|z
    ·exact hx x z
    ·rw[aW.mp z];exact⟨N,Y⟩
   ·obtain⟨g,st,e,q⟩:=V;exact⟨g,st,by rw[kh nb];exact e,q⟩
  have C:gd (xs.length<sizeLine)=λr:Am.R A=>r:=by funext r;exact zc (show xs.length<16777216 by lia)
  unfold qM;dsimp[i6,bools,e5];by_cases hw:w=3
  ·rw[show(w == 3)=true by simpa using hw];obtain⟨bb,G⟩:=B8 (S:=S5) (v:=1+e) xs;have K:Uw false (.int<|1+e) (.ref S3.length) S5=.ok (.bl bb) S5:=by
    show opt (iG S5 S3.length) _=_;rw[f,i8,G];rfl
   dsimp[i6,bools,K]
   cases bb with
   | true=>
    dsimp[i6,bools,f,aH,C];exact⟨_,_,rfl,B _ () ()⟩
   | false=>
    dsimp[i6,bools,f,aH,C];exact⟨_,_,rfl,B _ () ()⟩
  ·rw[show(w == 3)=false by simpa using hw];dsimp[i6,bools,f,aH,C];exact⟨_,_,rfl,B _ () ()⟩
 ·rintro τ S4 ⟨xs,a6,F,rfl,J,j,hx,k,P⟩;dsimp[i6,bools];exact⟨xs,_,_,rfl,J,(),hx,k,P,l3⟩
def Mp{S:iM}{n:Nat}{T:List<|ae}{x:Int}(h:Tab S n rs T)(hl:T.length<=1000)(hr:∀i,(T.getD i []).length<=1000) :
  ∃(qs:ag) (m:Nat) (S':iM),p9 [.ref n,.int x] S=.ok (.ref m) S'/\Tab S' m qs (Tb.put T x)/\jL S S'/\∀r∈m::qs,S.length<=r:=by
 obtain⟨qs,m,S1,e1,h1,k1,F⟩:=nW (cap:=[]) (τ:=[.ref n,.int x,.unb,.unb,.unb]) (src:=jF<|iE 0) h (jY (by dsimp[i6,bools]) h.top) ();have Z:=h1.len;unfold p9 vH vF;dsimp[i6,bools,jI,Nat.reduceAdd,Nat.reduceSub,e1];refine DO (n:=m) (xs:=qs.map .ref) (S1:=S1) (jY (by dsimp[i6,bools]) h1.top)
  (λi τ S2=>∃(U:List<|ae) (y:Int) (a3 J:A),τ=[.ref n,.int y,.ref m,a3,J]/\Tab S2 m qs U/\jL S S2/\U.length=T.length/\(∀j,(U.getD j []).length<=1000)/\Tb.put T x=U.take i++Tb.put (U.drop i) y)
  (λr=>∃V m' S',RS.end (RS.seq r _)=.ok (.ref m') S'/\Tab S' m' V (Tb.put T x)/\jL S S'/\∀r∈m'::V,S.length<=r) ⟨T,x,_,_,rfl,h1,k1,rfl,hr,rfl⟩ (λi τ S2 ⟨U,y,a3,J,_,C,_⟩=>C.top) ?_ ?_
 ·rintro i z τ S2 hz ⟨U,y,a3,J,rfl,C,k2,hU,G,d⟩;rw[aQ]at hz;obtain⟨r,B,rfl⟩:=aV.mp hz;obtain⟨hi,f⟩:=C.rows.get B;generalize hR:U.getD i []=R at f;have hRl:R.length<=1000:=by rw[<- hR];exact G i
  have q:U.drop i=R::U.drop (i+1):=by
   rw[dz hi,<- hR,aG,aF hi];rfl
  have fr:S.length<=r:=F r<|aN _<|bg B;refine⟨[.ref n,.int y,.ref m,.ref r,J],S2,rfl,?_⟩;have ec:=wZ (cap:=[some 1,some 3]) (t:=qK<|iK LQ (iK j8 (iE 2)<|iE 0)<|iE 1) (e:=iE 0) (τ:=[.ref n,.int y,.ref m,.ref r,J]) (src:=mY<|iX (f1 kj)<|iD (iE 3)<|iJ) (S:=S2) (S1:=S2) (lo:=0) (hi:=(R.length:Int))
   (mV (by dsimp[i6,bools,f,aH])<|lF () ()) (λk=>decide<|y<R.getD k.toNat 0) A.int
   (λk k0 k1=>by
    have:=nZ (r:=R) (i:=k) (k:=k.toNat) () ();dsimp[i6,bools,f,this]) (λk _ _ _=>by dsimp[i6,bools]) ()
  rw[OV]at ec;unfold vZ;dsimp[i6,bools,ec];have Y:iG (S2++[O.lst ((Tb.gs R y).map λk:Nat=>A.int (k:Int))]++[O.lst []]) S2.length=some ((Tb.gs R y).map λk:Nat=>A.int (k:Int)):=jj iR;have le:iG (S2++[O.lst ((Tb.gs R y).map λk:Nat=>A.int (k:Int))]++[O.lst []]) (S2++[O.lst ((Tb.gs R y).map λk:Nat=>A.int (k:Int))]).length=some []:=iR;have P:iG (S2++[O.lst ((Tb.gs R y).map λk:Nat=>A.int (k:Int))]++[O.lst []]) r=some (R.map .int):=jj<|jj f;have K:Tab (S2++[O.lst ((Tb.gs R y).map λk:Nat=>A.int (k:Int))]++[O.lst []]) m qs U:=C.nP Kp.refl.lay.lay;have k3:jL S (S2++[O.lst ((Tb.gs R y).map λk:Nat=>A.int (k:Int))]++[O.lst []]):=k2.lay.lay;have eE:=tV<|eq_nil Y le;dsimp[i6,bools,eE];obtain⟨g1,g2⟩:=Tb.EH R y;by_cases g:Tb.fg R y=R.length
  ·right;rw[g1 g];rw[g1 g,dO]at P K k3;dsimp[i6,bools,dO,List.isEmpty_nil,bu bz,P,aH,zc<|show R.length<16777216 by lia];have W:=K.set (i:=i) (r:=r) (ys:=R++[y]) B;rw[b5]at W;refine⟨_,_,rfl,qs,m,_,rfl,?_,k3.set<|.inr fr,F⟩;have e5:Tb.put T x=U.set i (R++[y]):=by
    rw[d,q,Tb.oW g,cJ,bf hi]
   rw[e5];exact W
  ·left;obtain⟨t,ht⟩:=g2 g;have N:=Tb.yZ g;rw[ht];rw[ht]at P K k3 Y;have e0:ng (((Tb.fg R y::t).map λk:Nat=>A.int (k:Int))) 0=some (.int (Tb.fg R y:Int)):=FG;have e1:ng (R.map A.int) (Tb.fg R y:Int)=some (.int<|R.getD (Tb.fg R y) 0):=nZ rfl N;have e2:wV R.length (Tb.fg R y:Int)=some (Tb.fg R y):=qI rfl N;dsimp[i6,bools,bP,List.isEmpty_cons,bu bz];rw[bP]at P K k3 Y e0;dsimp[i6,bools,P,Y,e0,e1,aH,e2,mK<|show([_,_]:ad).length<=16777216 by simp,kq<|show([_,_]:ad).length=2 from rfl];have W:=K.set (i:=i) (r:=r) (ys:=R.set (Tb.fg R y) y) B;rw[fu]at W;refine⟨_,_,rfl,U.set i<|R.set (Tb.fg R y) y,_,_,_,rfl,W,k3.set<|.inr fr,by rw[aZ];exact hU,λj=>?_,?_⟩
   ·rw[aG,eg];by_cases hj:i=j
    ·rw[bf hj,bf hi];simpa using hRl
    ·rw[bu hj,<- aG];exact G j
   ·have e6:∀R',U.set i R'=U.take i++R'::U.drop (i+1):=λR'=>by rw[cJ,bf hi]
    rw[d,q,Tb.rD g,e6];have l1:(U.take i).length=i:=by rw[cg];lia
    rw[List.take_append,List.drop_append,l1,Nat.add_sub_cancel_left,c_ (by lia:(U.take i).length<=i+1),dP (by lia:(U.take i).length<=i+1)];simp
 ·rintro τ S2 ⟨U,y,a3,J,rfl,C,k2,hU,G,d⟩;rw[aH,Z,<- hU,List.take_length,List.drop_length]at d;have hc:=C.cat (ys:=[y]);have hql:=C.len;dsimp[i6,bools];rw[vW (xs:=qs.map .ref) (ys:=[.ref S2.length]) (jj<|jj C.top) iR<|by simp;lia];refine⟨qs++[S2.length],_,_,rfl,?_,k2.lay.lay.lay,λr L=>?_⟩
  ·rw[d];exact hc
  ·have l2:=k2.len
   rcases bh.mp L with z|z
   ·rw[z];dsimp[aO];lia
   ·rcases bT.mp z with z|z
    ·exact F r (aN _ z)
    ·rw[aW.mp z];lia
def w6{S:iM}{xs:ae}(h:iG S L=some (xs.map .int))(hl:xs.length<=100) :
  ∃(rs qs:ag) (n m:Nat) (S':iM),kC [.ref L] S=.ok (.tup [.ref n,.ref m]) S'/\Tab S' n rs (Tb.tabs xs xs.length).1/\Tab S' m qs (Tb.tabs xs xs.length).2/\jL S S'/\(∀r∈n::rs,S.length<=r)/\(∀r∈m::qs,S.length<=r)/\∀r∈n::rs,r∉m::qs:=by
 unfold kC qp qq;dsimp[i6,bools,jI,Nat.reduceAdd,Nat.reduceSub];have lb:(S++[O.lst []]).length=S.length+1:=by rw[aO];rfl
 refine ug (lo:=0) (hi:=(xs.length:Int)) (S1:=S++[.lst []]++[.lst []]) (mV (by dsimp[i6,bools,jj<|jj h,aH])<|lF () ())
  (λi τ S1=>∃(rs qs:ag) (n:Nat) (a3 a4 a5:A),τ=[.ref L,.ref n,.ref (S++[O.lst []]).length,a3,a4,a5]/\Tab S1 n rs (Tb.tabs xs i).1/\Tab S1 (S++[O.lst []]).length qs (Tb.tabs xs i).2/\jL S S1/\(∀r∈n::rs,S.length<=r)/\(∀r∈(S++[O.lst []]).length::qs,S.length<=r)/\∀r∈n::rs,r∉(S++[O.lst []]).length::qs)
  (λq=>∃(rs qs:ag) (n m:Nat) (S':iM),RS.end (RS.seq q _)=.ok (.tup [.ref n,.ref m]) S'/\Tab S' n rs (Tb.tabs xs xs.length).1/\Tab S' m qs (Tb.tabs xs xs.length).2/\jL S S'/\(∀r∈n::rs,S.length<=r)/\(∀r∈m::qs,S.length<=r)/\∀r∈n::rs,r∉m::qs)
  ⟨[],[],S.length,_,_,_,rfl,Tab.nil<|jj iR,Tab.nil iR,Kp.refl.lay.lay,(λr d=>by rw[aW.mp d];exact aL _),(λr d=>by rw[aW.mp d,lb];lia),λr d hq=>by rw[aW.mp d]at hq;have:=aW.mp hq;lia⟩ ?_ ?_
 ·rintro i τ S1 hi ⟨rs,qs,n,a3,a4,a5,rfl,hT,hQ,k1,fr,U,dj⟩;left;generalize hm:(S++[O.lst []]).length=m at hQ U dj;have hi':i<xs.length:=()
  obtain⟨z1,z2⟩:=Tb.tB xs i;have hx:ng (xs.map A.int) (0+(i:Int))=some (.int<|xs.getD i 0):=nZ () hi';obtain⟨V,mo,S2,e2,Z,k2,W⟩:=Mp (x:=xs.getD i 0) hT () (λj=>by have:=z2 j;lia);have B:=hT.nP k2;have Y:=hQ.nP k2;have hl2:=(k1.trans k2).lst _ _ (λz=>z) h;generalize hX:xs.getD i 0=x at hx e2 Z;generalize hTT:(Tb.tabs xs i).1=T at hT B Z z1 z2;generalize hQQ:(Tb.tabs xs i).2=Q at hQ Y;have hQl:Q.length=T.length:=by rw[<- hQQ,<- hTT];exact Tb.A7 xs i
  have J:=Tb.zV T x;have hrl:=Tb.Aq T x;have hrN:Tb.row T x<(Tb.put T x).length:=by rw[J];split<;>lia
  have lT:=B.len;have lM:=Z.len;have lQ:=Y.len;have hN:(Tb.put T x).length<=101:=by rw[J];split<;>lia
  have ec:=wZ (cap:=[some 1,some 4]) (t:=Hh (qK<|iK (pO false) (iE 0)<|iX (f1 kj)<|iD (iE 1)<|iJ)<|qK<|iK Nc (iX (f1 kj)<|iD (iK j8 (iE 1)<|iE 0)<|iJ)<|iX (f1 kj)<|iD (iK j8 (iE 2)<|iE 0)<|iJ) (e:=iE 0)
   (τ:=[.ref L,.ref n,.ref m,.int<|0+(i:Int),.ref mo,a5]) (src:=mY<|iX (f1 kj)<|iD (iE 4)<|iJ) (S:=S2) (S1:=S2) (lo:=0) (hi:=((Tb.put T x).length:Int))
   (mV (by dsimp[i6,bools,Z.top,aH,lM])<|lF () ()) (λk=>decide<|k=(Tb.row T x:Int)) A.int
   (λk c0 c1=>by
    dsimp[i6,bools,B.top,aH,lT];by_cases hk:k=(T.length:Int)
    ·rw[show(k == (T.length:Int))=true by simpa using hk];dsimp[i6,bools];have:Tb.row T x=T.length:=by
      rw[J]at c1;by_cases z:Tb.row T x=T.length
      ·exact z
      ·rw[bu z]at c1;lia
     rw[aX ()]
    ·rw[show(k == (T.length:Int))=false by simpa using hk];have hkT:k.toNat<T.length:=by
      rw[J]at c1;by_cases z:Tb.row T x=T.length
      ·rw[bf z]at c1;lia
      ·rw[bu z]at c1;lia
     have a1:ng (rs.map A.ref) k=some (.ref<|rs.getD k.toNat 0):=nJ (k:=k.toNat) () (by rw[aQ,aG,aF<|show k.toNat<rs.length by lia];rfl);have a2:ng (V.map A.ref) k=some (.ref<|V.getD k.toNat 0):=nJ (k:=k.toNat) () (by rw[aQ,aG,aF<|show k.toNat<V.length by lia];rfl);have b1:=(B.rows.get (i:=k.toNat) (r:=rs.getD k.toNat 0)<|by rw[aG,aF<|show k.toNat<rs.length by lia];rfl).2;have b2:=(Z.rows.get (i:=k.toNat) (r:=V.getD k.toNat 0)<|by rw[aG,aF<|show k.toNat<V.length by lia];rfl).2;have b3:=Tb.Qw T x k.toNat;dsimp[i6,bools,B.top,Z.top,a1,a2,b1,b2,aH];by_cases z:k.toNat=Tb.row T x
     ·rw[bf z]at b3;rw[aX (),aX ()]
     ·rw[bu z]at b3;rw[aY (),aY ()]) (λk _ _ _=>by dsimp[i6,bools]) ()
  rw[L5 hrN]at ec;have e0:ng ([.int (Tb.row T x:Nat)]:ad) 0=some (.int (Tb.row T x:Nat)):=FG;generalize hS3:S2++[O.lst [.int (Tb.row T x:Nat)]]=S3 at ec;have g3:iG S3 S2.length=some [.int (Tb.row T x:Nat)]:=by rw[<- hS3];exact iR
  have N:jL S2 S3:=by rw[<- hS3];kt_k
  have f:=Y.nP N;have K:=Z.nP N;have k3:jL S S3:=(k1.trans k2).trans N;unfold qY;dsimp[i6,bools,k1.lst _ _ (λz=>z) h,hx,e2,ec,g3,e0,f.top,aH,lQ,hQl];have l3:S.length<=S3.length:=k3.len;have l23:=N.len;have l12:=k2.len;have nx:Tb.tabs xs (i+1)=(Tb.put T x,Tb.add Q (Tb.row T x)<|(i:Int)+1):=by rw[<- hTT,<- hQQ,<- hX];rfl
  have frM:∀r∈mo::V,S1.length<=r:=W;have F:=hQ.lt;have G:m∈m::qs:=a_ ..;by_cases d:Tb.row T x=T.length
  ·rw[show(((Tb.row T x:Nat):Int) == (T.length:Int))=true by rw[d];simp];have lm:iG (S3++[O.lst []]) m=some (qs.map .ref):=jj f.top;have hP:=f.push (ys:=[]);rw[dO]at hP;have hPq:=hP.rows.get (i:=qs.length) (r:=S3.length) (by simp);have g4:=hPq.2;have e4:(Q++[([]:ae)]).getD qs.length []=[]:=by rw[aG,lQ];simp
   rw[e4,dO]at g4;have g:ng ((qs++[S3.length]).map A.ref) (Tb.row T x:Int)=some (.ref S3.length):=nJ (k:=qs.length) () (by simp);have C:=hP.top;rw[b5]at C g g4;dsimp[i6,bools,f.top,lm,aH,zc<|show qs.length<16777216 by lia];dsimp[bP,dO]at C g g4;dsimp[i6,bools,C,g,g4,gE,zc<|show 0<16777216 by decide];have h5:=hP.set (i:=qs.length) (r:=S3.length) (ys:=[(i:Int)+1]) (by simp);have s5:(Q++[[]]).set qs.length [(i:Int)+1]=Tb.add Q (Tb.row T x) ((i:Int)+1):=by
    rw[show Tb.row T x=Q.length by lia,Tb.DH,lQ];simp
   rw[s5,b5]at h5;dsimp[bP,dO,fH]at h5;have kk:Kp (λa=>a∈m::qs\/S3.length<=a) S3 (((S3++[O.lst []]).set m<|O.lst<|List.map A.ref qs++[A.ref S3.length]).set S3.length<|O.lst<|[]++[A.int<|(i:Int)+1]):=(Kp.refl.lay.set<|.inl<|.inl G).set<|.inr<|aL _;refine⟨_,_,rfl,V,qs++[S3.length],mo,_,_,_,rfl,?_,?_,?_,λr d=>bX k1.len<|W r d,λr d=>?_,λr d hq=>?_⟩
   ·rw[nx];refine K.kp (c:=λa=>a∈m::qs\/S3.length<=a) ?_ λr d z=>?_
    ·simpa[gc]using kk
    ·rcases z with z|z
     ·exact absurd (F r z) (by have:=W r d;lia)
     ·exact absurd (K.lt r d) ()
   ·rw[nx];simpa[gc]using h5
   ·have:jL S (((S3++[O.lst []]).set m<|O.lst<|List.map A.ref qs++[A.ref S3.length]).set S3.length<|O.lst<|[]++[A.int<|(i:Int)+1]):=(k3.lay.set<|.inr<|U m G).set<|.inr l3;simpa[gc]using this
   ·rcases bh.mp d with z|z
    ·rw[z];exact U m G
    ·rcases bT.mp z with z|z
     ·exact U r (aN _ z)
     ·rw[aW.mp z];exact l3
   ·have hrf:=W r d;have hrl:=K.lt r d
    rcases bh.mp hq with z|z
    ·have:=F m G;lia
    ·rcases bT.mp z with z|z
     ·have:=F r<|aN _ z;lia
     ·have:=aW.mp z;lia
  ·rw[show(((Tb.row T x:Nat):Int) == (T.length:Int))=false by rw[gH];lia];have hrq:Tb.row T x<qs.length:=()
   generalize hq0:qs.getD (Tb.row T x) 0=q;have P:qs[Tb.row T x]?=some q:=by rw[<- hq0,aG,aF hrq];rfl
   have g4:=(f.rows.get P).2;have g:ng (qs.map A.ref) (Tb.row T x:Int)=some (.ref q):=nJ rfl (by rw[aQ,P];rfl);have hbq:(Q.getD (Tb.row T x) []).length<=100:=by
    have e:=Tb.mq Q<|Tb.row T x;have:=Tb.kZ xs i;rw[hTT,hQQ]at this;rw[<- e,this,Tb.mq];have:=z2<|Tb.row T x;lia
   have hmq:q∈m::qs:=aN _<|bg P;dsimp[i6,bools,f.top,g,g4,aH,zc<|show(Q.getD (Tb.row T x) []).length<16777216 by lia];have h5:=f.set (i:=Tb.row T x) (r:=q) (ys:=Q.getD (Tb.row T x) []++[(i:Int)+1]) P;rw[<- Tb.Ko Q (Tb.row T x) _ (),b5]at h5;have kk:Kp (·∈m::qs) S3 (S3.set q<|O.lst<|(Q.getD (Tb.row T x) []).map A.int++[A.int<|(i:Int)+1]):=Kp.refl.set<|.inl hmq;refine⟨_,_,rfl,V,qs,mo,_,_,_,rfl,?_,?_,?_,λr d=>bX k1.len<|W r d,λr d=>?_,λr d hq=>?_⟩
   ·rw[nx];refine K.kp (c:=(·∈m::qs)) ?_ λr d z=>?_
    ·simpa[gc]using kk
    ·exact absurd (F r z) (by have:=W r d;lia)
   ·rw[nx];simpa[gc]using h5
   ·have:jL S (S3.set q<|O.lst<|(Q.getD (Tb.row T x) []).map A.int++[A.int<|(i:Int)+1]):=k3.set<|.inr<|U q hmq;simpa[gc]using this
   ·exact U r d
   ·have:=W r d;have:=F r hq
    lia
 ·rintro τ S1 ⟨rs,qs,n,a3,a4,a5,rfl,hT,hQ,k1,fr,U,dj⟩;rw[show((xs.length:Int)-0).toNat=xs.length by lia]at hT hQ;dsimp[i6,bools,mK<|show([_,_]:ad).length<=16777216 by simp];exact⟨rs,qs,n,_,_,rfl,hT,hQ,k1,fr,U,dj⟩
end K59
namespace Sy
open Tb
abbrev ls (r:ae)(y:Int):Nat:=(r.findIdx λz=>decide<|y<=z)-1
abbrev lD:List (ae)->Nat->Int×List (ae)
 | [],_=>(0,[])
 | r::T,0=>(r.getLastD 0,r.dropLast::T)
 | r::T,a+1=>(r.getD (ls r (lD T a).1) 0,r.set (ls r (lD T a).1) (lD T a).1::(lD T a).2)
abbrev pad (T:List<|ae)(n:Nat):List (ae):=T++List.replicate (n-T.length) []
def Sn{r:ae}{y:Int}{p:Nat}(hp:p<r.length)(h1:∀j z,j<=p->r[j]?=some z->z<y)(h2:∀j z,p<j->r[j]?=some z->y<=z):ls r y=p:=by
 have a:¬r.findIdx (λz=>decide<|y<=z)<=p:=λc=>by
  have d:r.findIdx (λz=>decide<|y<=z)<r.length:=()
  have:=fh (xs:=r) (p:=λz=>decide<|y<=z) (w:=d);have:=h1 _ _ c<|aF d;simp at *;lia
 have b:r.findIdx (λz=>decide<|y<=z)<=p+1:=by
  rcases ef (p+1) (r.findIdx λz=>decide<|y<=z)with c|c
  ·exfalso;have d:p+1<r.length:=by have:=f6 (xs:=r) (p:=λz=>decide<|y<=z);lia
   have q:=f_ (xs:=r) (p:=λz=>decide<|y<=z) (i:=p+1) c;have:=h2 (p+1) _ (bG _)<|aF d;simp at q;lia
  ·exact c
 unfold ls
 lia
def nR{r:ae}(h:A3 r){i j:Nat}{x y:Int}(hij:i<=j)(hx:r[i]?=some x)(hy:r[j]?=some y):x<=y:=by
 rcases Nat.lt_or_eq_of_le hij with c|c
 ·obtain⟨hi,e1⟩:=aJ.mp hx;obtain⟨d,e2⟩:=aJ.mp hy;rw[<- e1,<- e2];exact dX.mp h i j hi d c
 ·subst c;rw[hx]at hy;cases hy;exact iB _
theorem EJ:∀{T:List<|ae}{x:Int},(∀r∈T,A3 r)->lD (put T x) (row T x)=(x,pad T (put T x).length)
 | [],x,_=>rfl
 | r::T,x,h=>by
  by_cases c:fg r x=r.length
  ·rw[oW c,ud c];show((r++[x]).getLastD 0,(r++[x]).dropLast::T)=_;unfold pad;simp
  ·have hp:=yZ c;have hy:r[fg r x]?=some (r.getD (fg r x) 0):=by rw[aG,aF hp];rfl
   have k:=BO hy;have B:=EJ (T:=T) (x:=r.getD (fg r x) 0) λq m=>h q<|aN _ m;have t:=h r<|a_ ..;rw[rD c,xO c];have e:ls (r.set (fg r x) x) (r.getD (fg r x) 0)=fg r x:=by
    refine Sn (by rw[aZ];exact hp) (λj z g f=>?_) λj z g f=>?_
    ·rcases Nat.lt_or_eq_of_le g with d|d
     ·rw[bN ()]at f;have:=pX d f
      lia
     ·rw[d,bK hp]at f
      cases f;exact k
    ·rw[bN ()]at f;exact nR t (c8 g) hy f
   show((r.set (fg r x) x).getD (ls _ (lD (put T _)<|row T _).1) 0,(r.set (fg r x) x).set (ls _ (lD (put T _)<|row T _).1) (lD (put T _)<|row T _).1::(lD (put T _)<|row T _).2)=_;rw[B];show((r.set (fg r x) x).getD (ls _<|r.getD (fg r x) 0) 0,(r.set (fg r x) x).set (ls _<|r.getD (fg r x) 0) (r.getD (fg r x) 0)::pad T _)=_;rw[e,gO];refine Prod.ext ?_ ?_
   ·show(r.set (fg r x) x).getD (fg r x) 0=x;rw[aG,bK hp];rfl
   ·show r.set (fg r x) (r.getD (fg r x) 0)::pad T _=pad (r::T) _;have:r.set (fg r x) (r.getD (fg r x) 0)=r:=by
     rw[aG,aF hp];exact gj hp
    rw[this];unfold pad;rw[bB,bB,gk];rfl
def zX{r:ae}{y z:Int}{q:Nat}(h:A3 r)(hz:r[q]?=some z)(hlt:z<y):q<=ls r y/\ls r y<r.length/\(∀j z,j<=ls r y->r[j]?=some z->z<y)/\∀j z,ls r y<j->r[j]?=some z->y<=z:=by
 have B:=(aJ.mp hz).1;have k:=f6 (xs:=r) (p:=λz=>decide<|y<=z);have b:∀j w,j<r.findIdx (λz=>decide<|y<=z)->r[j]?=some w->w<y:=λj w f hw=>by
  have m:=f_ (xs:=r) (p:=λz=>decide<|y<=z) (i:=j) f;obtain⟨d,e⟩:=aJ.mp hw;rw[e]at m;simp at m;lia
 have a:q<r.findIdx λz=>decide (y<=z):=by
  rcases ef q (r.findIdx λz=>decide<|y<=z)with c|c
  ·exact c
  ·exfalso;have d:r.findIdx (λz=>decide<|y<=z)<r.length:=()
   have m:=fh (xs:=r) (p:=λz=>decide<|y<=z) (w:=d);have:=nR h c (aF d) hz;simp at m;lia
 refine⟨by unfold ls;lia,by unfold ls;lia,λj w f hw=>b j w (by unfold ls at f;lia) hw,λj w f hw=>?_⟩;have g:r.findIdx (λz=>decide<|y<=z)<=j:=by unfold ls at f;lia
 have t:=(aJ.mp hw).1;have d:r.findIdx (λz=>decide<|y<=z)<r.length:=()
 have m:=fh (xs:=r) (p:=λz=>decide<|y<=z) (w:=d);have:=nR h g (aF d) hw;simp at m;lia
def OO{r:ae}(h:∀(i j:Nat) (x y:Int),i<j->r[i]?=some x->r[j]?=some y->x<=y):A3 r:=
 dX.mpr λi j hi f d=>h i j _ _ d (aF hi)<|aF f
abbrev qD (T:List<|ae)(a:Nat):Prop:=a<T.length/\∀u,T[a+1]?=some u->u.length<(T.getD a []).length
theorem wQ:∀{T:List<|ae}{a:Nat},lK T->qD T a->∃T',lK T'/\(lD T a).2=pad T' T.length/\put T' (lD T a).1=T/\row T' (lD T a).1=a/\T'.length<=T.length /\
  ∃(u:ae) (q:Nat),T.head?=some u/\u[q]?=some (lD T a).1/\∀u',T'.head?=some u'->u'.length<=u.length/\(∀(j:Nat) (z:Int),q<=j->u'[j]?=some z->(lD T a).1<z)/\∀(j:Nat) (z:Int),u'[j]?=some z->∃z0,u[j]?=some z0/\z0<=z
 | [],a,_,c=>absurd c.1 (cU _)
 | r::T,0,h,c=>by
  obtain⟨h1,t,O,L⟩:=h;have rl:0<r.length:=b9.mpr h1;have last:r[r.length-1]?=some (r.getLastD 0):=by
   rw[fy,fB];rw[aF ()];rfl
  have app:r.dropLast++[r.getLastD 0]=r:=by
   rw[fy,gA h1];exact gG h1
  have dl:r.dropLast.length=r.length-1:=eY;have J:∀j z,r.dropLast[j]?=some z->j<r.length-1/\r[j]?=some z:=λj z d=>by
   have B:=(aJ.mp d).1;refine⟨(),?_⟩;rw[<- app,aT B];exact d
  show ∃T',lK T'/\r.dropLast::T=pad T' (T.length+1)/\put T' (r.getLastD 0)=r::T/\row T' (r.getLastD 0)=0/\T'.length<=T.length+1/\∃(u:ae) (q:Nat),some r=some u/\u[q]?=some (r.getLastD 0)/\_;by_cases e:r.dropLast=[]
  ·have rl1:r.length=1:=by rw[e]at dl;simp at dl;lia
   have eT:T=[]:=by
    cases T with
    | nil=>rfl
    | cons u U=>
     have:=c.2 u rfl;have nz:=b9.mpr L.1;simp at this
     lia
   subst eT;refine⟨[],trivial,by rw[e];rfl,?_,rfl,cj _,r,r.length-1,rfl,last,λu' f=>by cases f⟩;show[[r.getLastD 0]]=[r];rw[e]at app;rw[<- app];rfl
  ·have fl:fg r.dropLast (r.getLastD 0)=r.dropLast.length:=by
    rcases ef (fg r.dropLast<|r.getLastD 0) r.dropLast.length with z|z
    ·exfalso;have g:=aF z;have N:=BO g;have g2:=J _ _ g;have:=nR t (c8 g2.1) g2.2 last
     lia
    ·exact Nat.le_antisymm (Kr _ _) z
   refine⟨r.dropLast::T,⟨e,t.sublist<|List.dropLast_sublist _,λu f=>⟨?_,λj x y hx hy=>(O u f).2 j x y (J j x hx).2 hy⟩,L⟩,?_,?_,ud fl,aL _,r,r.length-1,rfl,last,λu' f=>?_⟩
   ·have:=c.2 u (by rw[eN,<- List.head?_eq_getElem?];exact f);simp at this
    lia
   ·unfold pad;simp
   ·rw[oW fl,app]
   ·cases f
    exact⟨(),λj z B d=>absurd (J j z d).1 (),λj z d=>⟨z,(J j z d).2,iB _⟩⟩
 | r::T,a+1,h,c=>by
  obtain⟨h1,t,O,L⟩:=h;have c':qD T a:=⟨by have:=c.1;simp at this;lia,λu f=>by have:=c.2 u (by rw[eN];exact f);simpa using this⟩;obtain⟨T',t1,t2,t3,t4,t5,u,q,f,hq,hh⟩:=wQ L c';generalize hy:(lD T a).1=y at *
  have K:=O u f;have ql:=(aJ.mp hq).1;have qr:q<r.length:=by have:=K.1;lia
  have W:r[q]?=some r[q]:=aF qr;obtain⟨s1,C,Z,Y⟩:=zX t W<|K.2 q _ _ W hq;generalize hP:ls r y=P at *
  have G:r[P]?=some (r.getD P 0):=by rw[aG,aF C];rfl
  generalize hx:r.getD P 0=x at *
  have xy:=Z P x (aL _) G;have rs:(r.set P y)[P]?=some y:=bK C;have m:∀j,j≠P->(r.set P y)[j]?=r[j]?:=λj B=>bN<|cQ B;have F:fg (r.set P y) x=P:=by
   have l1:=Hy rs xy
   rcases ef (fg (r.set P y) x) P with z|z
   ·exfalso;have hl:fg (r.set P y) x<(r.set P y).length:=by rw[aZ];lia
    have g:=aF hl;have N:=BO g;rw[m _ ()]at g;have:=nR t (c8 z) g G
    lia
   ·lia
  have tk:lD (r::T) (a+1)=(x,r.set P y::(lD T a).2):=by
   show(r.getD (ls r (lD T a).1) 0,r.set (ls r (lD T a).1) (lD T a).1::(lD T a).2)=_;rw[hy,hP,hx]
  rw[tk];refine⟨r.set P y::T',⟨λz=>h1<|List.length_eq_zero_iff.mp<|by rw[<- aZ (i:=P) (a:=y),z];rfl,OO λi j v w V hv hw=>?_,λu' k=>⟨?_,λj v w hv hw=>?_⟩,t1⟩,?_,?_,?_,by simpa using t5,r,P,rfl,G,λu' k=>?_⟩
  ·by_cases e1:i=P
   ·rw[e1,rs]at hv;cases hv;rw[m j ()]at hw;exact Y j w () hw
   ·rw[m i e1]at hv;by_cases e2:j=P
    ·rw[e2,rs]at hw;cases hw;have:=Z i v () hv
     lia
    ·rw[m j e2]at hw;exact nR t (c8 V) hv hw
  ·have:=(hh u' k).1;have:=K.1;rw[aZ];lia
  ·obtain⟨_,k2,k3⟩:=hh u' k;by_cases e1:j=P
   ·rw[e1,rs]at hv;cases hv;exact k2 j w () hw
   ·rw[m j e1]at hv;obtain⟨z0,N,g2⟩:=k3 j w hw;have:=K.2 j v z0 hv N
    lia
  ·show r.set P y::(lD T a).2=_;rw[t2];unfold pad;rw[bB,bB,gk];rfl
  ·show put (r.set P y::T') x=r::T;rw[rD<|by rw[F,aZ];lia,F,gO];have g:(r.set P y).getD P 0=y:=by rw[aG,rs];rfl
   rw[g,t3,<- hx];congr 1;rw[aG,aF C];exact gj C
  ·show row (r.set P y::T') x=a+1;rw[xO<|by rw[F,aZ];lia,F];have g:(r.set P y).getD P 0=y:=by rw[aG,rs];rfl
   rw[g,t4]
  ·cases k
   refine⟨by rw[aZ];exact aL _,λj z B d=>?_,λj z d=>?_⟩
   ·by_cases e1:j=P
    ·rw[e1,rs]at d;cases d;exact xy
    ·rw[m j e1]at d;have:=Y j z () d
     lia
   ·by_cases e1:j=P
    ·rw[e1,rs]at d;cases d;exact⟨x,by rw[e1];exact G,()⟩
    ·rw[m j e1]at d;exact⟨z,d,iB _⟩
end Sy
namespace Sy
open Tb
abbrev wh (Q:List<|ae)(k:Int):Nat:=Q.findIdx λq=>decide<|k∈q
def nS(q:ae)(Q:List<|ae)(k:Int):wh (q::Q) k=if k∈q then 0 else wh Q k+1:=by
 unfold wh;rw[List.findIdx_cons];by_cases c:k∈q
 ·rw[bf c,aX c];rfl
 ·rw[bu c,aY c];rfl
theorem Ei:∀{Q:List<|ae}{i:Nat}{m:Int},(∀q∈Q,m∉q)->i<=Q.length->wh (add Q i m) m=i
 | [],i,m,_,h=>by
  have:i=0:=by simpa using h
  subst this;show wh [[m]] m=0;rw[nS,bf<|aW.mpr rfl]
 | q::Q,0,m,h,_=>by
  show wh ((q++[m])::Q) m=0;rw[nS,bf<|by simp]
 | q::Q,i+1,m,h,hl=>by
  show wh (q::add Q i m) m=_;rw[nS,bu<|h q<|a_ ..,Ei (λp hp=>h p<|aN _ hp)<|by simpa using hl]
theorem Eo:∀{Q:List<|ae}{i:Nat}{k m:Int},k≠m->(∃q∈Q,k∈q)->wh (add Q i m) k=wh Q k
 | [],i,k,m,_,h=>by obtain⟨q,f,_⟩:=h;cases f
 | q::Q,0,k,m,hn,h=>by
  show wh ((q++[m])::Q) k=_;rw[nS,nS];have:k∈q++[m] ↔ k∈q:=by simp[hn]
  by_cases c:k∈q
  ·rw[bf<|this.mpr c,bf c]
  ·rw[bu λz=>c<|this.mp z,bu c]
 | q::Q,i+1,k,m,hn,h=>by
  show wh (q::add Q i m) k=_;rw[nS,nS];by_cases c:k∈q
  ·rw[bf c,bf c]
  ·rw[bu c,bu c,Eo hn];obtain⟨p,hp,d⟩:=h
   rcases bh.mp hp with e|e
   ·rw[e]at d;exact absurd d c
   ·exact⟨p,e,d⟩
theorem wH:∀{Q:List<|ae}{i:Nat}{m k:Int},(∃q∈add Q i m,k∈q) ↔ (k=m\/∃q∈Q,k∈q)
 | [],i,m,k=>by show(∃q∈[[m]],k∈q) ↔ _;simp
 | q::Q,0,m,k=>by
  show(∃p∈(q++[m])::Q,k∈p) ↔ _;dsimp[bh,exists_eq_or_imp,bT,aW];constructor
  ·rintro((h|h)|h)
   ·exact .inr (.inl h)
   ·rcases h with h|h
    ·exact .inl h
    ·cases h
   ·exact .inr<|.inr h
  ·rintro(h|h|h)
   ·exact .inl (.inr<|.inl h)
   ·exact .inl (.inl h)
   ·exact .inr h
 | q::Q,i+1,m,k=>by
  show(∃p∈q::add Q i m,k∈p) ↔ _;dsimp[bh,exists_eq_or_imp];rw[wH (Q:=Q)];constructor
  ·rintro(h|h|h)
   ·exact .inr (.inl h)
   ·exact .inl h
   ·exact .inr<|.inr h
  ·rintro(h|h|h)
   ·exact .inr (.inl h)
   ·exact .inl h
   ·exact .inr<|.inr h
theorem vN:∀(T:List<|ae) (x:Int),row T x<(put T x).length/\row T x<=T.length
 | [],x=>⟨bG _,aL _⟩
 | r::T,x=>by
  by_cases c:fg r x=r.length
  ·rw[oW c,ud c];exact⟨Nat.succ_pos _,cj _⟩
  ·rw[rD c,xO c];have:=vN T<|r.getD (fg r x) 0;exact⟨gx this.1,eK this.2⟩
def ur(r:ae)(T:List<|ae)(m:Nat):pad (r::T) (m+1)=r::pad T m:=by
 unfold pad;rw[bB,gk];rfl
theorem tZ:∀{T:List<|ae}{a m:Nat},a<T.length->T.length<=m->lD (pad T m) a=((lD T a).1,pad (lD T a).2 m)
 | [],a,m,h,_=>absurd h (cU _)
 | r::T,0,m,_,hm=>by
  obtain⟨m,rfl⟩:∃k,m=k+1:=⟨m-1,by simp at hm;lia⟩;rw[ur];show(r.getLastD 0,r.dropLast::pad T m)=(r.getLastD 0,pad (r.dropLast::T)<|m+1);rw[ur]
 | r::T,a+1,m,h,hm=>by
  obtain⟨m,rfl⟩:∃k,m=k+1:=⟨m-1,by simp at hm;lia⟩;rw[ur];show(r.getD (ls r (lD (pad T m) a).1) 0,r.set (ls r (lD (pad T m) a).1) (lD (pad T m) a).1::(lD (pad T m) a).2)=(r.getD (ls r (lD T a).1) 0,pad (r.set (ls r (lD T a).1) (lD T a).1::(lD T a).2)<|m+1);rw[tZ (by simpa using h)<|by simpa using hm,ur]
def z8{T:List<|ae}(h:T.length<=l)(hm:l<=m):pad (pad T l) m=pad T m:=by
 unfold pad;rw[bZ,List.replicate_append_replicate,aO,gh];congr 2
 lia
abbrev we (ro:Nat->Nat):Nat->List (ae)->ae
 | 0,_=>[]
 | k+1,P=>we ro k (lD P<|ro<|k+1).2++[(lD P<|ro<|k+1).1]
theorem uz:∀{T:List<|ae},lK T->∀r∈T,A3 r
 | [],_,r,h=>nomatch h
 | q::T,⟨_,h2,_,h4⟩,r,h=>by
  rcases bh.mp h with e|e
  ·rw[e];exact h2
  ·exact uz h4 r e
def su(xs:ae){n:Nat}(h:n<=xs.length):lK (tabs xs n).1:=by
 rw[yN xs n h];exact yU _ trivial
def zV(T:List<|ae)(x:Int):T.length<=(put T x).length:=by
 have:=b_ List.length<|lC T x;rw[aH]at this;rw[this];have:∀(l:ag) (i:Nat),l.length<=(bump l i).length:=λl=>by
  induction l with
  | nil=>intro i;exact cj _
  | cons n l d=>
   intro i
   cases i with
   | zero=>exact aL _
   | succ i=>exact eK<|d i
 have:=this (T.map List.length)<|row T x;rw[aH]at this;exact this
theorem A_(xs:ae)(ro:Nat->Nat):∀(n:Nat),n<=xs.length->∀(m:Nat),(∀k,k<n->ro (k+1)=row (tabs xs k).1 (xs.getD k 0))->(tabs xs n).1.length<=m->we ro n (pad (tabs xs n).1 m)=xs.take n
 | 0,_,_,_,_=>rfl
 | n+1,h,m,hr,hm=>by
  have d:=su xs (n:=n) ();have e:(tabs xs<|n+1).1=put (tabs xs n).1 (xs.getD n 0):=rfl;rw[e]at hm ⊢;have f:=zV (tabs xs n).1<|xs.getD n 0;have k:lD (pad (put (tabs xs n).1<|xs.getD n 0) m) (ro<|n+1)=(xs.getD n 0,pad (tabs xs n).1 m):=by
   rw[hr n<|bG _,tZ (vN _ _).1 hm,EJ<|uz d];show(_,pad (pad _ _) m)=_;rw[z8 f hm]
  show we ro n (lD _<|ro<|n+1).2++[(lD _<|ro<|n+1).1]=_;rw[k];show we ro n (pad (tabs xs n).1 m)++[xs.getD n 0]=_;rw[A_ xs ro n () m (λj g=>hr j ()) (),gW,aG,aF ()];rfl
theorem z7(xs:ae):∀(n:Nat),(∀q∈(tabs xs n).2,∀k∈q,1<=k/\k<=n)/\(∀k:Nat,k<n->∃q∈(tabs xs n).2,((k:Int)+1)∈q)/\∀k:Nat,k<n->wh (tabs xs n).2 ((k:Int)+1)=row (tabs xs k).1 (xs.getD k 0)
 | 0=>⟨(λq g=>nomatch g),λk f=>absurd f<|cU _,λk f=>absurd f<|cU _⟩
 | n+1=>by
  obtain⟨a,b,c⟩:=z7 xs n;have e:(tabs xs<|n+1).2=add (tabs xs n).2 (row (tabs xs n).1<|xs.getD n 0) ((n:Int)+1):=rfl;rw[e];refine⟨λq g k f=>?_,λk f=>?_,λk f=>?_⟩
  ·rcases wH.mp ⟨q,g,f⟩with z|⟨p,hp,z⟩
   ·lia
   ·have:=a p hp k z;lia
  ·by_cases d:k=n
   ·subst d;exact wH.mpr (.inl rfl)
   ·exact wH.mpr<|.inr<|b k ()
  ·by_cases d:k=n
   ·subst d;refine Ei (λq g z=>?_) ?_
    ·have:=a q g _ z;lia
    ·have l:=b_ List.length<|kZ xs k;rw[aH,aH]at l;rw[l];exact(vN _ _).2
   ·rw[Eo ()<|b k (),c k ()]
end Sy
namespace Sy
open Tb
theorem AD:∀{Q:List<|ae}{m:Int},lK Q->(∀q∈Q,∀k∈q,k<=m)->(∃q∈Q,m∈q)->∃Q',Q=add Q' (wh Q m) m/\lK Q'/\wh Q m<=Q'.length/\qD Q (wh Q m)/\Q.flatten.Perm (m::Q'.flatten) /\
  ∀u',Q'.head?=some u'->∃u,Q.head?=some u/\u' <+: u
 | [],m,_,_,h=>by obtain⟨q,W,_⟩:=h;cases W
 | q::Q,m,⟨h1,h2,h3,h4⟩,hm,hx=>by
  rw[nS];by_cases c:m∈q
  ·rw[bf c];have ql:0<q.length:=b9.mpr h1;have last:q[q.length-1]?=some m:=by
    obtain⟨i,hi,e⟩:=cH c;have a:=nR h2 (i:=i) (j:=q.length-1) () (aF hi)<|aF ();have b:=hm q (a_ ..) _ (cW<|show q.length-1<q.length by lia);rw[aF ()];rw[e]at a;congr 1;lia
   have app:q.dropLast++[m]=q:=by
    have:=gG h1;have e:q.getLast h1=m:=by
     have:=fB (l:=q);rw[last,gA h1]at this;exact aR this
    rw[e]at this;exact this
   have O:q.dropLast.length=q.length-1:=eY;have f:∀u,Q.head?=some u->u.length<q.length:=λu d=>by
    have C:=h3 u d
    rcases ef u.length q.length with z|z
    ·exact z
    ·exfalso;have L:q.length-1<u.length:=()
     have:=C.2 (q.length-1) _ _ last<|aF L;have F:u∈Q:=List.mem_of_mem_head? (by rw[d];rfl);have:=hm u (aN _ F) _ (cW L)
     lia
   have t:qD (q::Q) 0:=⟨Nat.succ_pos _,λu d=>by
    rw[eN,<- List.head?_eq_getElem?]at d;have:=f u d;simpa using this⟩
   by_cases e:q.dropLast=[]
   ·have eQ:Q=[]:=by
     cases Q with
     | nil=>rfl
     | cons u U=>
      have a:=f u rfl;have:=b9.mpr h4.1;rw[e]at O;simp at O
      lia
    subst eQ;rw[e]at app;refine⟨[],?_,trivial,aL _,t,?_,λu' d=>by cases d⟩
    ·rw[<- app];rfl
    ·rw[<- app];exact fZ _
   ·refine⟨q.dropLast::Q,?_,⟨e,h2.sublist<|List.dropLast_sublist _,λu d=>⟨?_,λj x y g hy=>?_⟩,h4⟩,cj _,t,?_,λu' d=>?_⟩
    ·show q::Q=(q.dropLast++[m])::Q;rw[app]
    ·have:=f u d;lia
    ·have Z:=(aJ.mp g).1;refine(h3 u d).2 j x y ?_ hy;rw[<- app,aT Z];exact g
    ·show(q++Q.flatten).Perm (m::(q.dropLast++Q.flatten))
     conv=>lhs;rw[<- app]
     rw[bZ];exact eO
    ·cases d
     exact⟨q,rfl,List.dropLast_prefix _⟩
  ·rw[bu c];have g:∃p∈Q,m∈p:=by
    obtain⟨p,hp,G⟩:=hx
    rcases bh.mp hp with e|e
    ·rw[e]at G;exact absurd G c
    ·exact⟨p,e,G⟩
   obtain⟨Q',V,t2,P,N,Y,t6⟩:=AD h4 (λp hp=>hm p<|aN _ hp) g;refine⟨q::Q',b_ (q::·) V,⟨h1,h2,λu' d=>?_,t2⟩,by simpa using P,⟨gx N.1,λu d=>?_⟩,?_,λu' d=>⟨q,rfl,by cases d;exact dR _⟩⟩
   ·obtain⟨u,J,B⟩:=t6 u' d;have C:=h3 u J;refine⟨bX B.length_le C.1,λj x y K hy=>C.2 j x y K ?_⟩;obtain⟨w,rfl⟩:=B;rw[aT (aJ.mp hy).1];exact hy
   ·rw[eN]at d;have:=N.2 u d;simpa using this
   ·show(q++Q.flatten).Perm (m::(q++Q'.flatten));exact((List.Perm.append_left q Y).trans eO)
theorem xm:∀{l l':ag}{a:Nat},(∀k∈l,0<k)->(∀k∈l',0<k)->a<=l.length->a<=l'.length->bump l a=bump l' a->l=l'
 | [],[],_,_,_,_,_,_=>rfl
 | [],n::l',a,_,h',ha,_,e=>by
  have:a=0:=by simpa using ha
  subst this;have e:[1]=(n+1)::l':=e;have:=h' n (a_ ..)
  injection e with e1 e2
  lia
 | n::l,[],a,h,_,_,ha,e=>by
  have:a=0:=by simpa using ha
  subst this;have e:(n+1)::l=[1]:=e;have:=h n (a_ ..)
  injection e with e1 e2
  lia
 | n::l,k::l',0,_,_,_,_,e=>by
  have e:(n+1)::l=(k+1)::l':=e
  injection e with e1 e2
  rw[e2,show n=k by lia]
 | n::l,k::l',a+1,h,h',ha,ha',e=>by
  have e:n::bump l a=k::bump l' a:=e
  injection e with e1 e2
  rw[e1,xm (λz d=>h z<|aN _ d) (λz d=>h' z<|aN _ d) (by simpa using ha) (by simpa using ha') e2]
theorem oA:∀{T:List<|ae},lK T->∀k∈T.map List.length,0<k
 | [],_,k,h=>nomatch h
 | q::T,⟨h1,_,_,h4⟩,k,h=>by
  rcases bh.mp h with e|e
  ·rw[e];exact b9.mpr h1
  ·exact oA h4 k e
theorem Bt(ys zs:ae):∀n,n<=ys.length->tabs (ys++zs) n=tabs ys n
 | 0,_=>rfl
 | n+1,h=>by
  show(put (tabs (ys++zs) n).1<|(ys++zs).getD n 0,add (tabs (ys++zs) n).2 (row (tabs (ys++zs) n).1<|(ys++zs).getD n 0)<|(n:Int)+1)=_;rw[Bt ys zs n ()];have:(ys++zs).getD n 0=ys.getD n 0:=by rw[aG,aT (),<- aG]
  rw[this];rfl
theorem AM(ro:Nat->Nat):∀(N:Nat) {P Q:List<|ae}{m:Nat},lK P->lK Q->P.map List.length=Q.map List.length->Q.flatten.Perm (L2.jG 1<|(N:Int)+1)->(∀k:Nat,k<N->ro (k+1)=wh Q ((k:Int)+1))->P.length<=m ->
  (we ro N<|pad P m).length=N/\tabs (we ro N<|pad P m) N=(P,Q)
 | 0,P,Q,m,hP,hQ,hs,hp,_,_=>by
  have eQ:Q=[]:=by
   cases Q with
   | nil=>rfl
   | cons q Q=>
    have:=hp.length_eq;have:=b9.mpr hQ.1;rw[bI,aO]at *
    have z:(L2.jG 1<|((0:Nat):Int)+1).length=0:=rfl
    lia
  subst eQ;have eP:P=[]:=List.map_eq_nil_iff.mp hs;subst eP;exact⟨rfl,rfl⟩
 | N+1,P,Q,m,hP,hQ,hs,hp,hr,hm=>by
  have t:∀k:Int,(∃q∈Q,k∈q) ↔ 1<=k/\k<((N+1:Nat):Int)+1:=λk=>by
   rw[<- L2.kW,<- hp.mem_iff,cN]
  obtain⟨B,J,L,U,f,Z,_⟩:=AD (m:=(N:Int)+1) hQ (λq hq k hk=>by have:=(t k).mp ⟨q,hq,hk⟩;lia)<|(t _).mpr ⟨(),()⟩;have Y:=hr N<|bG _;generalize ha:wh Q ((N:Int)+1)=a at *
  have O:qD P a:=by
   have l:∀i:Nat,(P[i]?).map List.length=(Q[i]?).map List.length:=λi=>by rw[<- aQ,<- aQ,hs]
   have G:P.length=Q.length:=by have:=b_ List.length hs;simpa using this
   refine⟨by rw[G];exact f.1,λu V=>?_⟩;have e1:=l<|a+1;rw[V]at e1;obtain⟨w,hw,e⟩:=aV.mp e1.symm;have k:=f.2 w hw;have e2:=l a;rw[aF<|by rw[G];exact f.1,aF f.1]at e2;rw[aG,aF f.1]at k;rw[aG,aF<|by rw[G];exact f.1];have e2:=aR e2;dsimp[eL]at k ⊢
   lia
  obtain⟨d,p1,p2,p3,F,W,_⟩:=wQ hP O;generalize hx:(lD P a).1=x at *
  have sh:d.map List.length=B.map List.length:=by
   refine xm (a:=a) (oA p1) (oA L) ?_ (by rw[aH];exact U) ?_
   ·rw[aH,<- F];exact(vN _ _).2
   ·rw[<- sj B a ((N:Int)+1),<- J,<- hs,<- p3,lC,F]
  have k:lD (pad P m) (ro<|N+1)=(x,pad d m):=by
   rw[Y,tZ O.1 hm,p2,hx,z8 W hm]
  have C:B.flatten.Perm (L2.jG 1<|(N:Int)+1):=by
   have e:L2.jG 1 (((N+1:Nat):Int)+1)=L2.jG 1 ((N:Int)+1)++[(N:Int)+1]:=by
    unfold L2.jG;rw[show(((N+1:Nat):Int)+1-1).toNat=N+1 by lia,show((N:Int)+1-1).toNat=N by lia,gF,b5];show _++[1+(N:Int)]=_;rw[Int.add_comm 1]
   rw[e]at hp;have:=(Z.symm.trans hp).trans<|gn (l₁:=L2.jG 1<|(N:Int)+1) (l₂:=[(N:Int)+1]);exact(List.perm_cons _).mp this
  obtain⟨K,i2⟩:=AM ro N (P:=d) (Q:=B) (m:=m) p1 L sh C (λj hj=>by
   rw[hr j (),J,Eo ()];have:((j:Int)+1)∈L2.jG 1 ((N:Int)+1):=L2.kW.mpr ⟨(),()⟩;rw[<- C.mem_iff,cN]at this;exact this) ()
  show(we ro N (lD _<|ro<|N+1).2++[(lD _<|ro<|N+1).1]).length=_/\tabs (we ro N (lD _<|ro<|N+1).2++[(lD _<|ro<|N+1).1]) (N+1)=_;rw[k];show(we ro N (pad d m)++[x]).length=_/\tabs (we ro N (pad d m)++[x]) (N+1)=_;refine⟨by rw[aO,K];rfl,?_⟩;show(put (tabs (we ro N (pad d m)++[x]) N).1<|(we ro N (pad d m)++[x]).getD N 0,add (tabs (we ro N (pad d m)++[x]) N).2 (row (tabs (we ro N (pad d m)++[x]) N).1<|(we ro N (pad d m)++[x]).getD N 0)<|(N:Int)+1)=_;have g:(we ro N (pad d m)++[x]).getD N 0=x:=by
   rw[aG,c9 (),K,cT];rfl
  rw[Bt _ _ N (),i2,g];show(put d x,add B (row d x)<|(N:Int)+1)=_;rw[p3,F,<- J]
end Sy
namespace Sy
open Tb
theorem BC:∀{Q:List<|ae}{i:Nat}{m:Int},lK Q->(∀q∈Q,∀k∈q,k<m)->i<=Q.length->(∀j,((add Q i m).getD (j+1) []).length<=((add Q i m).getD j []).length)->lK (add Q i m)
 | [],i,m,_,_,_,_=>⟨(by simp),List.pairwise_singleton _ _,(λu d=>nomatch d),trivial⟩
 | q::Q,0,m,⟨h1,h2,h3,h4⟩,hm,_,_=>by
  refine⟨by simp,Bs h2 λy hy=>Int.le_of_lt<|hm q (a_ ..) y hy,λu d=>?_,h4⟩;have f:=h3 u d;refine⟨by rw[aO];have:=f.1;lia,λj x y hx hy=>f.2 j x y ?_ hy⟩;have G:=(aJ.mp hy).1;rw[aT (by have:=f.1;lia)]at hx;exact hx
 | q::Q,i+1,m,⟨h1,h2,h3,h4⟩,hm,hi,hl=>by
  have C:=BC (Q:=Q) (i:=i) (m:=m) h4 (λp hp=>hm p<|aN _ hp) (by simpa using hi) λj=>by
   have:=hl<|j+1;exact this
  have F:=hm q<|a_ ..;have t:((add Q i m).getD 0 []).length<=q.length:=hl 0;refine⟨h1,h2,λu d=>?_,C⟩;have lt:∀(j:Nat) (x:Int),q[j]?=some x->x<m:=λj x hx=>F x (bg hx)
  cases Q with
  | nil=>
   have d:some [m]=some u:=d
   cases d
   refine⟨b9.mpr h1,λj x y hx hy=>?_⟩;have:=(aJ.mp hy).1;have B:j=0:=by simpa using this
   subst B
   cases hy
   exact lt 0 x hx
  | cons v V=>
   have f:=h3 v rfl
   cases i with
   | zero=>
    have d:some (v++[m])=some u:=d
    cases d
    refine⟨t,λj x y hx hy=>?_⟩
    rcases ef j v.length with z|z
    ·rw[aT z]at hy;exact f.2 j x y hx hy
    ·have g:=(aJ.mp hy).1;rw[aO]at g;have:j=v.length:=by simp at g;lia
     subst this;rw[c9<|aL _,cT]at hy
     cases hy
     exact lt _ x hx
   | succ i=>
    have d:some v=some u:=d
    cases d
    exact f
theorem zu:∀{T:List<|ae},lK T->∀j,(T.getD (j+1) []).length<=(T.getD j []).length
 | [],_,j=>aL _
 | [r],_,j=>cj _
 | r::s::T,h,0=>(h.2.2.1 s rfl).1
 | r::s::T,h,j+1=>zu (T:=s::T) h.2.2.2 j
theorem rK(xs:ae):∀n,n<=xs.length->lK (tabs xs n).2
 | 0,_=>trivial
 | n+1,h=>by
  have e:(tabs xs<|n+1).2=add (tabs xs n).2 (row (tabs xs n).1<|xs.getD n 0) ((n:Int)+1):=rfl;have m:=kZ xs<|n+1;have tl:=zu<|su xs h;have d:∀j,((tabs xs<|n+1).2.getD j []).length=((tabs xs<|n+1).1.getD j []).length:=λj=>by
   have:=b_ (λl:ag=>l[j]?) m;dsimp[aQ]at this;rw[aG,aG]
   cases h1:(tabs xs<|n+1).2[j]?<;>cases t:(tabs xs<|n+1).1[j]?<;>rw[h1,t]at this
   ·cases this
   ·cases this
   ·exact aR this
  rw[e]at d ⊢;refine BC (rK xs n ()) (λq f k g=>?_) ?_ λj=>?_
  ·have:=(z7 xs n).1 q f k g;lia
  ·have l:=b_ List.length<|kZ xs n;rw[aH,aH]at l;rw[l];exact(vN _ _).2
  ·rw[d,d];exact tl j
end Sy
namespace Sy
open Tb
inductive Chain (ro:Nat->Nat):Nat->List (ae)->Prop
 | nil:Chain ro 0 []
 | step {N:Nat} {P P':List<|ae}:lK P->qD P (ro<|N+1)->(lD P<|ro<|N+1).2=pad P' P.length->P'.length<=P.length->Chain ro N P'->Chain ro (N+1) P
theorem Bb(ro:Nat->Nat):∀(N:Nat) {P Q:List<|ae},lK P->lK Q->P.map List.length=Q.map List.length->Q.flatten.Perm (L2.jG 1<|(N:Int)+1)->(∀k:Nat,k<N->ro (k+1)=wh Q ((k:Int)+1))->Chain ro N P
 | 0,P,Q,hP,hQ,hs,hp,_=>by
  have eQ:Q=[]:=by
   cases Q with
   | nil=>rfl
   | cons q Q=>
    have:=hp.length_eq;have:=b9.mpr hQ.1;rw[bI,aO]at *
    have z:(L2.jG 1<|((0:Nat):Int)+1).length=0:=rfl
    lia
  subst eQ;have eP:P=[]:=List.map_eq_nil_iff.mp hs;subst eP;exact .nil
 | N+1,P,Q,hP,hQ,hs,hp,hr=>by
  have f:∀k:Int,(∃q∈Q,k∈q) ↔ 1<=k/\k<((N+1:Nat):Int)+1:=λk=>by
   rw[<- L2.kW,<- hp.mem_iff,cN]
  obtain⟨B,F,K,G,d,W,_⟩:=AD (m:=(N:Int)+1) hQ (λq hq k Z=>by have:=(f k).mp ⟨q,hq,Z⟩;lia)<|(f _).mpr ⟨(),()⟩;have V:=hr N<|bG _;rw[<- V]at F G d;have L:qD P (ro<|N+1):=by
   have l:∀i:Nat,(P[i]?).map List.length=(Q[i]?).map List.length:=λi=>by rw[<- aQ,<- aQ,hs]
   have C:P.length=Q.length:=by have:=b_ List.length hs;simpa using this
   refine⟨by rw[C];exact d.1,λu O=>?_⟩;have e1:=l<|ro (N+1)+1;rw[O]at e1;obtain⟨w,hw,e⟩:=aV.mp e1.symm;have k:=d.2 w hw;have e2:=l<|ro<|N+1;rw[aF<|by rw[C];exact d.1,aF d.1]at e2;rw[aG,aF d.1]at k;rw[aG,aF<|by rw[C];exact d.1];have e2:=aR e2;dsimp[eL]at k ⊢
   lia
  obtain⟨t,p1,p2,p3,J,U,_⟩:=wQ hP L;have Y:t.map List.length=B.map List.length:=by
   refine xm (a:=ro<|N+1) (oA p1) (oA K) ?_ (by rw[aH];exact G) ?_
   ·rw[aH];have:=(vN t (lD P<|ro<|N+1).1).2;rw[J]at this;exact this
   ·rw[<- sj B (ro<|N+1) ((N:Int)+1),<- F,<- hs];have:=lC t (lD P<|ro<|N+1).1;rw[p3,J]at this;exact this.symm
  have g:B.flatten.Perm (L2.jG 1<|(N:Int)+1):=by
   have e:L2.jG 1 (((N+1:Nat):Int)+1)=L2.jG 1 ((N:Int)+1)++[(N:Int)+1]:=by
    unfold L2.jG;rw[show(((N+1:Nat):Int)+1-1).toNat=N+1 by lia,show((N:Int)+1-1).toNat=N by lia,gF,b5];show _++[1+(N:Int)]=_;rw[Int.add_comm 1]
   rw[e]at hp;have:=(W.symm.trans hp).trans<|gn (l₁:=L2.jG 1<|(N:Int)+1) (l₂:=[(N:Int)+1]);exact(List.perm_cons _).mp this
  exact .step hP L p2 U (Bb ro N p1 K Y g λj hj=>by
   rw[hr j (),F,Eo ()];have:((j:Int)+1)∈L2.jG 1 ((N:Int)+1):=L2.kW.mpr ⟨(),()⟩;rw[<- g.mem_iff,cN]at this;exact this)
end Sy
namespace K59
open PySem L2 Am
def SX{f g:A->A->iM->R A}{ca cb cc:Ex}{a:A}(h1:ca τ S=.ok a S)(h2:cb τ S=.ok b S)(h3:f a b S=.ok (.bl true) S)(h4:cc τ S=.ok c S):LW f g ca cb cc τ S=g b c S:=by
 unfold LW;rw[h1,R.jZ,h2,R.jZ,h3,R.jZ];unfold UW;show(cc τ S).bind _=_;rw[h4];rfl
def PX{r:Nat}{R:ae}{y z:Int}{q:Nat}(h:iG S r=some (R.map .int))(hl:R.length<=1000)(hI:Sy.A3 R)(hq:R[q]?=some z)(hz:z<y):kT [.ref r,.int y] S=.ok (.int (Sy.ls R y:Nat)) S:=by
 obtain⟨B,m,j,f⟩:=Sy.zX hI hq hz;unfold kT n_ oi;dsimp[i6,bools,jI,Nat.reduceAdd,Nat.reduceSub,h,aH];refine xQ (λτ d=>d=S/\∃p:Nat,Sy.ls R y<=p/\p<R.length/\τ=[.ref r,.int y,.int (p:Int)])
  (λτ _=>match τ with
   | [_,_,.int i]=>i.toNat
   | _=>0)
  (λt=>RS.end (RS.seq t _)=.ok (.int (Sy.ls R y:Nat)) S) ?_ 1000000 _ _ ⟨rfl,R.length-1,(),(),b_ (λz=>[A.ref r,A.int y,A.int z]) ()⟩ ?_
 ·rintro τ d ⟨rfl,p,p1,p2,rfl⟩;have g:ng (R.map A.int) (p:Int)=some (.int R[p]):=zO (k:=p) rfl<|aF p2;unfold p8 pU;dsimp[i6,bools,h,g];by_cases c:p=Sy.ls R y
  ·left;have:=j p _ ()<|aF p2;refine⟨d,by rw[aY ()],?_⟩;dsimp[i6,bools,c]
  ·right;have:=f p _ ()<|aF p2;refine⟨d,by rw[aX ()],.inl ⟨_,_,rfl,⟨rfl,p-1,(),(),b_ (λz=>[A.ref r,A.int y,A.int z]) ()⟩,?_⟩⟩;show((p:Int)-1).toNat<(p:Int).toNat
   lia
 ·show((R.length:Int)-1).toNat<1000000
  lia
def Jk{lo hi:Int}{c:Sm}{src:Ic}{τ:ad}(hs:src τ S=.ok (y_ lo hi) S1)(Inv:Nat->ad->iM->Prop)(Post:RS->Prop)(h0:Inv 0 τ S1)
  (step:∀(i:Nat) τ S,i<(lo-hi).toNat->Inv i τ S->(∃τ' S',c (τ.set j<|.int<|lo-i) S=.nx τ' S'/\Inv (i+1) τ' S')\/(∃a S',c (τ.set j<|.int<|lo-i) S=.rt a S'/\Post (.rt a S')))
  (fin:∀τ S,Inv (lo-hi).toNat τ S->Post (.nx τ S)):Post (sF src (je j) c τ S):=by
 unfold sF;rw[hs];refine Ae (s:=y_ lo hi) Inv Post (λi τ S d h=>?_) (λτ S h=>⟨rfl,fin τ S h⟩) _ 0 τ S1 rfl h0;have d:i<(lo-hi).toNat:=d;exact⟨.int<|lo-i,_,S,bf d,rfl,step i τ S d h⟩
open Sy (lD ls A3)
abbrev Vf (U:List<|ae)(a:Nat):Prop:=a<U.length/\U.getD a []≠[]/\∀j,j<a->A3 (U.getD j [])/\∃(q:Nat) (z:Int),(U.getD j [])[q]?=some z/\z<(lD (U.drop<|j+1)<|a-j-1).1
def l_{U:List<|ae}(h:j<U.length):U.drop j=U.getD j []::U.drop (j+1):=by
 rw[aG,aF h];exact dz h
def DC{U:List<|ae}{r:ae}(h:j<U.length)(e:U.getD j []=r):(U.take (j+1)++W).set j r'=U.take j++r'::W:=by
 rw[gW,aF h];show(U.take j++[U[j]]++W).set j r'=_;rw[bZ,List.set_append_right _ _<|by rw[cg];lia,cg,Nat.min_eq_left (),cT];rfl
def HF{U:List<|ae}{k:Nat}(h:j<k)(hk:k<=U.length):(U.take k++W).getD j []=U.getD j []:=by
 rw[aG,aT<|by rw[cg];lia,fD h,<- aG]
def Mi{n a:Nat}{rs:ag}{U:List<|ae}(h:Tab S n rs U)(ok:Vf U a)(hl:U.length<=1000)(hr:∀i,(U.getD i []).length<=1000) :
  ∃S',oB [.ref n,.int (a:Int)] S=.ok (.int (lD U a).1) S'/\Tab S' n rs (lD U a).2/\Kp (·∈rs) S S':=by
 obtain⟨m,o2,Z⟩:=ok;have len:=h.len;have d:∀j,j<U.length->rs[j]?=some (rs.getD j 0):=λj B=>by rw[aG,aF ()];rfl
 have f:∀j,j<U.length->rs.getD j 0∈rs:=λj B=>bg<|d j B;have top:∀j,j<U.length->ng (rs.map A.ref) (j:Int)=some (.ref<|rs.getD j 0):=λj B=>nJ (k:=j) rfl (by rw[aQ,d j B];rfl);have O:=(h.rows.get<|d a m).2;have l0:0<(U.getD a []).length:=b9.mpr o2;have F:Pg (.ref<|rs.getD a 0) [] S=.ok (.int<|(U.getD a []).getLastD 0) (S.set (rs.getD a 0)<|.lst<|(U.getD a []).dropLast.map .int):=by
  show opt (iG S<|rs.getD a 0) _=_;rw[O,i8];show opt (((U.getD a []).map A.int)[((U.getD a []).map A.int).length-1]?) _=_;rw[aH,aQ,aF ()];show R.ok (A.int _) (S.set _<|.lst ((U.getD a []).map A.int).dropLast)=_;rw[<- List.map_dropLast,fy,fB,aF ()];rfl
 have t0:=h.set (ys:=(U.getD a []).dropLast)<|d a m;have e0:U.set a (U.getD a []).dropLast=U.take a++(lD (U.drop a)<|a-a).2:=by
  have:=DC (U:=U) (W:=U.drop<|a+1) (r':=(U.getD a []).dropLast) m rfl;rw[dD]at this;rw[this,l_ m,cT];rfl
 rw[e0]at t0;have k0:Kp (·∈rs) S (S.set (rs.getD a 0)<|.lst<|(U.getD a []).dropLast.map .int):=Kp.refl.set<|.inl<|f a m;have V:(U.getD a []).getLastD 0=(lD (U.drop a)<|a-a).1:=by rw[l_ m,cT];rfl
 obtain⟨C,J⟩:∃C,C=S.set (rs.getD a 0) (.lst<|(U.getD a []).dropLast.map .int):=⟨_,rfl⟩;rw[<- J]at F t0 k0;unfold oB sU tK;dsimp[i6,bools,jI,Nat.reduceAdd,Nat.reduceSub,h.top,top a m,F,O,V];refine Jk (lo:=(a:Int)-1) (hi:=-1) (S1:=C) (show uf _ _=_ from Bj (S1:=C) (S2:=C) (by dsimp[i6,bools]) (by dsimp[i6,bools]) (by dsimp[i6,bools]) (lF () ())<|lF ⋯ ⋯)
  (λi τ S'=>(∃a3 L,τ=[.ref n,.int (a:Int),.int (lD (U.drop<|a-i) i).1,a3,L])/\Tab S' n rs (U.take (a-i)++(lD (U.drop<|a-i) i).2)/\Kp (·∈rs) S S')
  (λr=>∃S',RS.end (RS.seq r _)=.ok (.int (lD U a).1) S'/\Tab S' n rs (lD U a).2/\Kp (·∈rs) S S') ⟨⟨_,_,by rw[cT];rfl⟩,by rw[cT]at t0;exact t0,k0⟩ ?_ ?_
 ·rintro i τ S1 hi ⟨⟨a3,L,rfl⟩,g,k1⟩;left;obtain⟨j,B⟩:∃j,a-i=j+1:=⟨a-i-1,()⟩;have Y:a-(i+1)=j:=()
  have t:j<U.length:=()
  rw[B]at g ⊢;obtain⟨c1,q,z,c2,c3⟩:=Z j ();rw[show a-j-1=i by lia]at c3;have G:=(g.rows.get<|d j t).2;rw[HF (bG _) ()]at G;have lk:=PX (S:=S1) G (hr j) c1 c2 c3;obtain⟨_,N,_,_⟩:=Sy.zX c1 c2 c3;have K:=nZ (r:=U.getD j []) (i:=(ls (U.getD j []) (lD (U.drop<|j+1) i).1:Nat)) rfl N;have t2:=g.set (ys:=(U.getD j []).set (ls (U.getD j []) (lD (U.drop<|j+1) i).1) (lD (U.drop<|j+1) i).1)<|d j t;rw[DC t rfl]at t2;have ix:wV (U.getD j []).length ((ls (U.getD j []) (lD (U.drop<|j+1) i).1:Nat):Int)=some (ls (U.getD j []) (lD (U.drop<|j+1) i).1):=qI rfl N;unfold uw;rw[show(a:Int)-1-(i:Int)=(j:Int)by lia];dsimp[i6,bools,g.top,top j t,lk,G,K,mK<|show([_,_]:ad).length<=16777216 by simp,kq<|show([_,_]:ad).length=2 from rfl,aH,ix,<- fu];rw[Y,l_ t];exact⟨_,_,rfl,⟨_,_,rfl⟩,t2,k1.set<|.inl<|f j t⟩
 ·rintro τ S1 ⟨⟨a3,L,rfl⟩,g,k1⟩;have P:(((a:Int)-1)-(-1)).toNat=a:=()
  rw[P,cT,dI]at g;refine⟨S1,?_,by simpa using g,k1⟩;rw[P,cT,dI];dsimp[i6,bools]
theorem pT:∀{T:List<|ae}(k:Nat),Sy.lK T->Sy.lK (T.drop k)
 | [],k,_=>by rw[List.drop_nil];trivial
 | r::T,0,h=>h
 | r::T,k+1,h=>pT k h.2.2.2
def E_{T:List<|ae}(h:Sy.lK T)(hj:j<T.length)(hu:(T.drop<|j+1).head?=some u):Sy.Fits u (T.getD j []):=by
 have:=pT j h;rw[l_ hj]at this;exact this.2.2.1 u hu
def DM{T:List<|ae}(h:j<T.length):(Sy.pad T m).getD j []=T.getD j []:=by
 unfold Sy.pad;rw[aG,aT h,<- aG]
def J8{T:List<|ae}{k:Nat}(h:k<=T.length):(Sy.pad T m).drop k=Sy.pad (T.drop k) (m-k):=by
 unfold Sy.pad;rw[List.drop_append_of_le_length h,cA];congr 2
 lia
def PV{T:List<|ae}{a:Nat}(h:Sy.lK T)(c:Sy.qD T a)(hm:T.length<=m):Vf (Sy.pad T m) a:=by
 have hg:∀j,j<T.length->T.getD j []∈T:=λj f=>by
  rw[aG,aF f];exact cW f
 refine⟨by unfold Sy.pad;rw[aO];have:=c.1;lia,?_,λj f=>?_⟩
 ·rw[DM c.1];have:=pT a h;rw[l_ c.1]at this;exact this.1
 ·have g:j<T.length:=by have:=c.1;lia
  have F:=c.1;rw[DM g,J8 ()];refine⟨Sy.uz h _<|hg j g,?_⟩;have B:Sy.qD (T.drop<|j+1) (a-j-1):=by
   refine⟨by rw[cA];lia,λu d=>?_⟩;rw[gZ,show j+1+(a-j-1+1)=a+1 by lia]at d;have:=c.2 u d;rw[aG,gZ,show j+1+(a-j-1)=a by lia,<- aG];exact this
  rw[Sy.tZ B.1<|by rw[cA];lia];obtain⟨_,_,_,_,_,_,u,q,d,k,_⟩:=Sy.wQ (pT (j+1) h) B;have t:=E_ h g d;have C:=(aJ.mp k).1;have z:q<(T.getD j []).length:=by have:=t.1;lia
  exact⟨q,_,aF z,t.2 q _ _ (aF z) k⟩
abbrev l8:A->Bool
 | .int i=>decide (1<=i) && decide (i<=1000000000)
 | _=>false
abbrev Pl (S:iM):A->Prop
 | .int _ | .bl _ | .jC | .str _ | .tup _=>True
 | .ref n=>∃xs,iG S n=some xs
 | _=>False
abbrev Gs:A->Bool
 | .int _=>true
 | _=>false
def Np{x:A}(h:Pl S x):om [x] S=.ok (.bl<|Gs x) S:=by
 unfold om sZ tD
 cases x with
 | int i=>dsimp[i6,oR,bools,jI,Nat.reduceAdd,Nat.reduceSub,show m9 .int "int" = some true from rfl,show m9 .int "bool" = some false from rfl,bQ,Gs]
 | bl i=>dsimp[i6,oR,bools,jI,Nat.reduceAdd,Nat.reduceSub,show m9 .bl "int" = some true from rfl,show m9 .bl "bool" = some true from rfl,bU,Gs]
 | jC=>dsimp[i6,oR,bools,jI,Nat.reduceAdd,Nat.reduceSub,show m9 .jC "int" = some false from rfl,Gs]
 | str i=>dsimp[i6,oR,bools,jI,Nat.reduceAdd,Nat.reduceSub,show m9 .str "int" = some false from rfl,Gs]
 | tup i=>dsimp[i6,oR,bools,jI,Nat.reduceAdd,Nat.reduceSub,show m9 .tup "int" = some false from rfl,Gs]
 | ref n=>
  obtain⟨xs,e⟩:=h;dsimp[i6,oR,bools,jI,Nat.reduceAdd,Nat.reduceSub,e,dZ,show m9 .lst "int" = some false from rfl,Gs]
 | _=>exact h.elim
def Ue{f g:A->A->iM->R A}{ca cb cc:Ex}{a:A}(h1:ca τ S=.ok a S)(h2:cb τ S=.ok b S)(h3:f a b S=.ok (.bl false) S):LW f g ca cb cc τ S=.ok (.bl false) S:=by
 unfold LW;rw[h1,R.jZ,h2,R.jZ,h3,R.jZ];rfl
def NN{x:Int}{cc:Ex}{τ:ad}(h0:τ.getD 0 .unb=.int x)(h:cc τ S=.ok (.int 1000000000) S):LW Cn Cn (eC<|.int 1) (iE 0) cc τ S=.ok (.bl<|decide (1<=x) && decide (x<=1000000000)) S:=by
 have v:iE 0 τ S=.ok (.int x) S:=by
  unfold iE;rw[show τ.getD 0 .unb=.int x from h0];rfl
 by_cases c:1<=x
 ·rw[SX (f:=Cn) (g:=Cn) (a:=.int 1) (b:=.int x) (c:=.int 1000000000) rfl v (by dsimp[i6,bools,aX c]) h,aX c];dsimp[i6,bools,cV]
 ·rw[Ue (f:=Cn) (g:=Cn) (a:=.int 1) (b:=.int x) rfl v<|by dsimp[i6,bools,aY c],aY c];rfl
def Pl.nu{x:A}(h:Pl S x):x.j5=false:=by
 cases x with
 | unb=>exact h.elim
 | _=>rfl
def Jq{x:A}(h:Pl S x):lV [x] S=.ok (.bl<|l8 x) S:=by
 have e:=Np h;unfold lV rC rR
 cases x with
 | int i=>dsimp[i6,oR,bools,jI,Nat.reduceAdd,Nat.reduceSub,e,Gs,NN (S:=S) (x:=i) (cc:=eC<|.int 1000000000) (τ:=[.int i]) rfl rfl,l8]
 | bl i=>dsimp[i6,oR,bools,jI,Nat.reduceAdd,Nat.reduceSub,e,Gs,l8]
 | jC=>dsimp[i6,oR,bools,jI,Nat.reduceAdd,Nat.reduceSub,e,Gs,l8]
 | str i=>dsimp[i6,oR,bools,jI,Nat.reduceAdd,Nat.reduceSub,e,Gs,l8]
 | tup i=>dsimp[i6,oR,bools,jI,Nat.reduceAdd,Nat.reduceSub,e,Gs,l8]
 | ref n=>dsimp[i6,oR,bools,jI,Nat.reduceAdd,Nat.reduceSub,e,Gs,l8]
 | _=>exact h.elim
def tM{S:iM}(bs:List Bool):BP (.ref S.length) (S++[O.lst<|bs.map A.bl])=.ok (.bl<|bs.all id) (S++[O.lst<|bs.map A.bl]):=by
 show opt (iG _ S.length) _=_;rw[iR,i8,F7,i8];rfl
def zG{r:Nat}{xs:ad}(h:iG S r=some xs)(hl:xs.length<=1000)(hb:∀x∈xs,Pl S x):∃S',lZ [.ref r] S=.ok (.bl<|xs.all l8) S'/\jL S S':=by
 have d:=uD (cap:=[]) (t:=jt) (e:=eFn lV<|iD (iE 0) iJ) (τ:=[.ref r]) (src:=jF<|iE 0) (jY (by dsimp[i6,bools]) h) h (λ_=>true) (λx=>.bl<|l8 x)
  (λx hx=>by dsimp[i6,bools]) (λx hx _=>by
   have e:=Jq<|hb x hx;have u:=rG (S:=S) (hb x hx).nu;dsimp[i6,bools,u,e]) ()
 have f:(xs.filter λ_=>true).map (λx=>A.bl<|l8 x)=(xs.map l8).map A.bl:=by
  rw[cP.mpr λ_ _=>rfl,bY];rfl
 have g:(xs.map l8).all id=xs.all l8:=by rw[all_map];rfl
 rw[f]at d;unfold lZ qh qC;dsimp[i6,bools,jI,Nat.reduceAdd,Nat.reduceSub,h,dZ,show m9 .lst "list" = some true from rfl,d,tM,g];exact⟨_,rfl,Kp.refl.lay⟩
abbrev QH:A->Prop
 | .int _ | .bl _ | .jC | .str _ | .tup _=>True
 | _=>False
def Qt{x:A}(h:QH x):j9 [x] S=.ok (.bl false) S:=by
 unfold j9 n9 nX
 cases x with
 | int i=>dsimp[i6,oR,bools,jI,Nat.reduceAdd,Nat.reduceSub,show m9 .int "list" = some false from rfl,bQ]
 | bl i=>dsimp[i6,oR,bools,jI,Nat.reduceAdd,Nat.reduceSub,show m9 .bl "list" = some false from rfl,bQ]
 | jC=>dsimp[i6,oR,bools,jI,Nat.reduceAdd,Nat.reduceSub,show m9 .jC "list" = some false from rfl,bQ]
 | str i=>dsimp[i6,oR,bools,jI,Nat.reduceAdd,Nat.reduceSub,show m9 .str "list" = some false from rfl,bQ]
 | tup i=>dsimp[i6,oR,bools,jI,Nat.reduceAdd,Nat.reduceSub,show m9 .tup "list" = some false from rfl,bQ]
 | _=>exact h.elim
abbrev mw (R:ae):Bool:=(R.map A.int).all l8 && (decide (0<R.length) && decide (R=sortI R))
def FF{R:ae}:∀x∈R.map A.int,Pl S x:=λx hx=>by
 obtain⟨v,_,rfl⟩:=bA.mp hx;trivial
def IJ{r:Nat}{R:ae}(h:iG S r=some (R.map .int))(hl:R.length<64):∃S',ju [.ref r] S=.ok (.bl<|mw R) S'/\jL S S':=by
 obtain⟨S1,e1,k1⟩:=zG h (by rw[aH];lia) FF;have h1:=k1.lst _ _ (λz=>z) h;have es:qt (.ref r) S1=.ok (.ref S1.length) (S1++[.lst<|(sortI R).map .int]):=by
  show opt (iG S1 r) _=_;rw[h1,i8,ints_map,i8,kq hl]
 have g:iG (S1++[O.lst<|(sortI R).map .int]) r=some (R.map .int):=jj h1;have f:=tV<|w_ (a:=r) (b:=S1.length) g iR;unfold ju k_ kU mw
 cases c:(R.map A.int).all l8 with
 | false=>
  dsimp[i6,oR,bools,jI,Nat.reduceAdd,Nat.reduceSub,e1,c,bW];exact⟨_,rfl,k1⟩
 | true=>
  by_cases d:0<R.length
  ·dsimp[i6,oR,bools,jI,Nat.reduceAdd,Nat.reduceSub,e1,c,h1,aH,aX d,aX<|show(0:Int)<(R.length:Int)by lia,es,f,cV];exact⟨_,rfl,k1.lay⟩
  ·dsimp[i6,oR,bools,jI,Nat.reduceAdd,Nat.reduceSub,e1,c,h1,aH,aY d,aY<|show ¬(0:Int)<(R.length:Int)by lia,bW,bO];exact⟨_,rfl,k1⟩
def IZ{r:Nat}{xs:ad}(h:iG S r=some xs)(hl:xs.length<=1000)(hb:∀x∈xs,Pl S x)(c:xs.all l8=false):∃S',ju [.ref r] S=.ok (.bl false) S'/\jL S S':=by
 obtain⟨S1,e1,k1⟩:=zG h hl hb;unfold ju k_ kU;dsimp[i6,oR,bools,jI,Nat.reduceAdd,Nat.reduceSub,e1,c];exact⟨_,rfl,k1⟩
abbrev pN (S:iM)(x:A)(b:Bool):Prop:=∀f,jL S f->∃d,ju [x] f=.ok (.bl b) d/\jL f d
def pN.inj{x:A}(h:pN S x b)(h':pN S x c):b=c:=by
 obtain⟨_,e,_⟩:=h S Kp.refl;obtain⟨_,d,_⟩:=h' S Kp.refl;rw[e]at d
 cases d;rfl
def pN.kp{x:A}(h:pN S x b)(k:jL S S'):pN S' x b:=λd f=>h d<|k.trans f
def q_{r:Nat}{R:ae}(h:iG S r=some (R.map .int))(hl:R.length<64):pN S (.ref r) (mw R):=λd k=>IJ (k.lst _ _ (λz=>z) h) hl
def Pl.kp{x:A}(h:Pl S x)(k:jL S S'):Pl S' x:=by
 cases x with
 | ref n=>obtain⟨xs,e⟩:=h;exact⟨xs,k.lst _ _ (λz=>z) e⟩
 | _=>exact h
def Jz{r:Nat}{xs:ad}(h:iG S r=some xs)(hl:xs.length<=1000)(hb:∀x∈xs,Pl S x)(c:xs.all l8=false):pN S (.ref r) false:=λd k=>IZ (k.lst _ _ (λz=>z) h) hl (λx hx=>(hb x hx).kp k) c
theorem J7:∀{xs:ad},(∀x∈xs,∃b,pN S x b)->∃gs:List Bool,gs.length=xs.length/\∀i x,xs[i]?=some x->pN S x (gs.getD i false)
 | [],_=>⟨[],rfl,λi x e=>nomatch e⟩
 | y::xs,h=>by
  obtain⟨b,hb⟩:=h y<|a_ ..;obtain⟨gs,l,hg⟩:=J7 λx hx=>h x<|aN _ hx;refine⟨b::gs,b_ (·+1) l,λi x e=>?_⟩
  cases i with
  | zero=>cases e;exact hb
  | succ i=>exact hg i x e
def zf{n:Nat}{xs:ad}{gs:List Bool}(h:iG S n=some xs)(hl:xs.length<=1000)(l:gs.length=xs.length)(hg:∀i x,xs[i]?=some x->pN S x (gs.getD i false)) :
  ∃S1,jL S S1/\jb [none] (jF<|iE 0) (je 0) jt (eFn ju<|iD (iE 0) iJ) [.ref n] S=.ok (.ref S1.length) (S1++[.lst<|gs.map A.bl]):=by
 obtain⟨S1,f,g2⟩:=r8 (s:=jv n xs.length) (g:=je 0) (t:=jt) (e:=eFn ju<|iD (iE 0) iJ)
  (P:=λS1=>jL S S1) (T:=λd=>∃y,d=[y])
  (λi=>xs.getD i .jC) (λ_=>true) (λi=>.bl<|gs.getD i false)
  (λi S1 hi k=>by
   have hi:i<xs.length:=hi;show(iG S1 n).bind _=_;rw[k.lst _ _ (λz=>z) h];show xs[i]?=_;rw[aG,aF hi];rfl)
  (λS1 k=>by
   show(match iG S1 n with|some xs=>_|none=>_)=true;rw[k.lst _ _ (λz=>z) h];simp)
  (λi τ S1 hi ⟨y,e⟩ k=>by
   subst e;have hi:i<xs.length:=hi;have hx:xs[i]?=some (xs.getD i .jC):=by rw[aG,aF hi];rfl
   obtain⟨S2,e2,k2⟩:=hg i _ hx S1 k;have nu:xs.getD i .jC≠.unb:=λz=>by
    rw[z]at e2;exact absurd e2<|by unfold ju k_ kU;intro q;cases q
   generalize xs.getD i .jC=x at e2 nu;refine⟨[x],S1,S1,by dsimp[i6,bools],by dsimp[i6,bools],⟨_,rfl⟩,(λz=>by cases z),λ_=>⟨S2,?_,k.trans k2⟩⟩;have u:=rG (S:=S1) (show x.j5=false by cases x<;>first|rfl|exact absurd rfl nu);dsimp[i6,bools,u,e2])
  xs.length 0 [.unb] S (by show xs.length+0=xs.length;lia) ⟨_,rfl⟩ Kp.refl
 have j:((List.range' 0 xs.length).filter λ_=>true).map (λi=>A.bl<|gs.getD i false)=gs.map A.bl:=by
  rw[cP.mpr λ_ _=>rfl,<- l];refine List.ext_getElem (by simp) λi h1 m=>?_;simp[List.getElem_range'];rw[aF<|by simpa using m];rfl
 rw[j]at f;refine⟨S1,g2,?_⟩;unfold jb;rw[jY (S1:=S) (by dsimp[i6,bools]) h,Am.R.jZ];show Am.R.jD (kg (jv n xs.length) _ _ _ xs.length 0 [.unb] S) _=_;rw[f,Am.R.jf,jE<|by simp;lia]
def Mj{n:Nat}{xs:ad}(h:iG S n=some xs)(hl:xs.length<=1000)(hb:∀x∈xs,∃b,pN S x b)(c:∃x∈xs,pN S x false):∃S',j9 [.ref n] S=.ok (.bl false) S'/\jL S S':=by
 obtain⟨gs,l,hg⟩:=J7 hb;obtain⟨S1,k1,e1⟩:=zf h hl l hg;have f:gs.all id=false:=by
  obtain⟨x,hx,d⟩:=c;obtain⟨i,hi,e⟩:=cH hx;have:=(hg i x<|by rw[aF hi,e]).inj d;rw[aG,aF ()]at this;refine d9.mpr λz=>?_;have:=cB.mp z _ (cW<|show i<gs.length by lia)
  simp_all
 unfold j9 n9 nX;dsimp[i6,oR,bools,jI,Nat.reduceAdd,Nat.reduceSub,h,dZ,show m9 .lst "list" = some true from rfl,bU,e1,tM,f,bQ];exact⟨_,rfl,k1.lay⟩
end K59
namespace K59
open PySem L2 Am
abbrev oU (U R:ae):Bool:=decide (U.length<=R.length) && ((List.range U.length).map λi=>decide<|R.getD i 0<U.getD i 0).all id
def HM{r q:Nat}{R U:ae}(hr:iG S r=some (R.map .int))(hq:iG S q=some (U.map .int))(hl:R.length<=1000):∃S',kG [.ref q,.ref r] S=.ok (.bl<|oU U R) S'/\jL S S':=by
 unfold kG qE qa oU;by_cases k:U.length<=R.length
 ·have d:zF (iE 1) (iE 0) [.ref q,.ref r] S=.ok (yV r q<|min (R.map A.int).length (U.map A.int).length) S:=IC (S1:=S) (by dsimp[i6,bools]) (by dsimp[i6,bools]) hr hq;have m:min (R.map A.int).length (U.map A.int).length=U.length:=by rw[aH,aH];lia
  rw[m]at d;obtain⟨S',j,g2⟩:=r8 (s:=yV r q U.length) (g:=Ft 2<|v_ (je 0)<|v_ (je 1) Em) (t:=jt) (e:=iK Nc (iE 0)<|iE 1)
   (P:=λS1=>S1=S) (T:=λf=>∃y z,f=[y,z])
   (λi=>.tup [.int<|R.getD i 0,.int<|U.getD i 0]) (λ_=>true) (λi=>.bl<|decide<|R.getD i 0<U.getD i 0)
   (λi S1 hi e=>by
    subst e;have hi:i<U.length:=hi;show(iG S1 r).bind _=_;rw[hr];show(iG S1 q).bind _=_;rw[hq];show((R.map A.int)[i]?).bind _=_;rw[aQ,aF (),aQ,aF hi,aG,aF (),aG,aF hi];rfl)
   (λS1 e=>by
    subst e;show(match iG S1 r,iG S1 q with|some xs,some ys=>_|_,_=>_)=true;rw[hr,hq];simp)
   (λi τ S1 hi ⟨y,z,e⟩ F=>by
    subst e F;refine⟨[.int<|R.getD i 0,.int<|U.getD i 0],S1,S1,by dsimp[i6,bools,kq<|show([_,_]:ad).length=2 from rfl],by dsimp[i6,bools],⟨_,_,rfl⟩,(λz=>by cases z),λ_=>⟨S1,by dsimp[i6,bools],rfl⟩⟩)
   U.length 0 [.unb,.unb] S (by show U.length+0=U.length;lia) ⟨_,_,rfl⟩ rfl
  subst g2;have C:((List.range' 0 U.length).filter λ_=>true).map (λi=>A.bl<|decide<|R.getD i 0<U.getD i 0)=((List.range U.length).map λi=>decide<|R.getD i 0<U.getD i 0).map A.bl:=by
   rw[cP.mpr λ_ _=>rfl,bY,eZ];rfl
  rw[C]at j;have B:jb [none,none] (zF (iE 1)<|iE 0) (Ft 2<|v_ (je 0)<|v_ (je 1) Em) jt (iK Nc (iE 0)<|iE 1) [.ref q,.ref r] S'=.ok (.ref S'.length) (S'++[.lst<|((List.range U.length).map λi=>decide<|R.getD i 0<U.getD i 0).map A.bl]):=by
   unfold jb;rw[d,Am.R.jZ];show Am.R.jD (kg (yV r q U.length) _ _ _ U.length 0 [.unb,.unb] S') _=_;rw[j,Am.R.jf,jE<|by simp;lia]
  dsimp[i6,oR,bools,jI,Nat.reduceAdd,Nat.reduceSub,hr,hq,aH,aX k,aX<|show(U.length:Int)<=(R.length:Int)by lia,B,tM,cV];exact⟨_,rfl,Kp.refl.lay⟩
 ·dsimp[i6,oR,bools,jI,Nat.reduceAdd,Nat.reduceSub,hr,hq,aH,aY k,aY<|show ¬(U.length:Int)<=(R.length:Int)by lia,bW];exact⟨_,rfl,Kp.refl⟩
abbrev nG (T:List<|ae):Bool:=(T.map mw).all id && ((List.range<|T.length-1).map λi=>oU (T.getD (i+1) [])<|T.getD i []).all id
structure Tw (S:iM)(n:Nat)(rs:ag)(T:List (ae)):Prop where
 top:iG S n=some (rs.map .ref)
 rows:Rows S rs T
def Tw.len{n:Nat}{rs:ag}{T:List<|ae}(h:Tw S n rs T):rs.length=T.length:=h.rows.len
def Tw.nP{n:Nat}(h:Tw S n rs T)(k:jL S S'):Tw S' n rs T:=⟨k.lst _ _ (λz=>z) h.top,h.rows.mono λr _ xs e=>k.lst _ _ (λz=>z) e⟩
def A5{n:Nat}(h:Tab S n rs T):Tw S n rs T:=⟨h.top,h.rows⟩
def wL{n:Nat}{T:List<|ae}(h:Tw S n rs T)(hl:T.length<=1000)(hr:∀i,(T.getD i []).length<64):∃S',j9 [.ref n] S=.ok (.bl<|nG T) S'/\jL S S':=by
 have len:=h.len;have d:∀j,j<T.length->rs[j]?=some (rs.getD j 0):=λj W=>by rw[aG,aF ()];rfl
 obtain⟨S1,k1,e1⟩:=zf (gs:=T.map mw) h.top (by rw[aH];lia) (by rw[aH,aH,len]) (λi x e=>by
  rw[aQ]at e;obtain⟨r,q,rfl⟩:=aV.mp e;obtain⟨hi,m⟩:=h.rows.get q;have:(T.map mw).getD i false=mw (T.getD i []):=by
   rw[aG,aQ,aG,aF hi];rfl
  rw[this];exact q_ m<|hr i)
 obtain⟨S2,f⟩:∃S2,S2=S1++[O.lst<|(T.map mw).map A.bl]:=⟨_,rfl⟩;have k2:jL S S2:=by rw[f];exact k1.lay
 have L:=h.nP k2;have C:=tM (S:=S1)<|T.map mw;rw[<- f]at e1 C;obtain⟨S3,K,N⟩:=r8 (s:=nH 1 (T.length:Int)) (g:=je 0) (t:=jt) (e:=eFn kG<|iD (iK j8 (iE 1)<|iE 0)<|iD (iK j8 (iE 1)<|iK aSub (iE 0)<|eC<|.int 1) iJ)
  (P:=λS1=>jL S2 S1) (T:=λJ=>∃y,J=[y,.ref n])
  (λi=>.int<|1+(i:Int)) (λ_=>true) (λi=>.bl<|oU (T.getD (i+1) [])<|T.getD i [])
  (λi S1 hi k=>bf hi) (λS1 k=>rfl)
  (λi τ S1 hi ⟨y,e⟩ k=>by
   subst e;have hi:i<((T.length:Int)-1).toNat:=hi;have B:=L.nP k;have V:ng (rs.map A.ref) (1+(i:Int))=some (.ref<|rs.getD (i+1) 0):=nJ (k:=i+1) () (by rw[aQ,d (i+1) ()];rfl);have t2:ng (rs.map A.ref) (1+(i:Int)-1)=some (.ref<|rs.getD i 0):=nJ (k:=i) () (by rw[aQ,d i ()];rfl);obtain⟨S4,e4,U⟩:=HM (B.rows.get<|d i ()).2 (B.rows.get<|d (i+1) ()).2 (by have:=hr i;lia);exact⟨[.int<|1+(i:Int),.ref n],S1,S1,by dsimp[i6,bools],by dsimp[i6,bools],⟨_,rfl⟩,(λz=>by cases z),λ_=>⟨S4,by dsimp[i6,bools,B.top,V,t2,e4],k.trans U⟩⟩)
  ((T.length:Int)-1).toNat 0 [.unb,.ref n] S2 (by show _+0=((T.length:Int)-1).toNat;lia) ⟨_,rfl⟩ Kp.refl
 have F:((List.range' 0 ((T.length:Int)-1).toNat).filter λ_=>true).map (λi=>A.bl<|oU (T.getD (i+1) [])<|T.getD i [])=((List.range<|T.length-1).map λi=>oU (T.getD (i+1) [])<|T.getD i []).map A.bl:=by
  rw[cP.mpr λ_ _=>rfl,bY,eZ,show((T.length:Int)-1).toNat=T.length-1 by lia];rfl
 rw[F]at K;have G:jb [none,some 0] (vQ (eC<|.int 1)<|iX (f1 kj)<|iD (iE 0) iJ) (je 0) jt (eFn kG<|iD (iK j8 (iE 1)<|iE 0)<|iD (iK j8 (iE 1)<|iK aSub (iE 0)<|eC<|.int 1) iJ) [.ref n] S2=.ok (.ref S3.length) (S3++[.lst<|((List.range<|T.length-1).map λi=>oU (T.getD (i+1) [])<|T.getD i []).map A.bl]):=by
  unfold jb;rw[BL (S1:=S2) (S2:=S2) (i:=1) (j:=(T.length:Int)) (by dsimp[i6,bools]) (by dsimp[i6,bools,L.top,aH,len]) (lF ⋯ ⋯)<|lF () (),Am.R.jZ];show Am.R.jD (kg (nH 1 (T.length:Int)) _ _ _ ((T.length:Int)-1).toNat 0 [.unb,.ref n] S2) _=_;rw[K,Am.R.jf,jE<|by simp;lia]
 unfold j9 n9 nX nG
 cases c:(T.map mw).all id with
 | false=>
  dsimp[i6,oR,bools,jI,Nat.reduceAdd,Nat.reduceSub,h.top,dZ,show m9 .lst "list" = some true from rfl,bU,e1,C,c,bQ,bW];exact⟨_,rfl,k2⟩
 | true=>
  dsimp[i6,oR,bools,jI,Nat.reduceAdd,Nat.reduceSub,h.top,dZ,show m9 .lst "list" = some true from rfl,bU,e1,C,c,G,tM,cV];exact⟨_,rfl,(k2.trans N).lay⟩
def LH{x:Int}:kF [.int x] S=.ok (.bl true) S:=by
 unfold kF oQ oK;dsimp[i6,oR,bools,jI,Nat.reduceAdd,Nat.reduceSub,show m9 .int "int" = some true from rfl,show m9 .int "bool" = some false from rfl,bQ]
def AA{T:List<|ae}(hi:i<T.length)(c:mw (T.getD i [])=false):nG T=false:=by
 unfold nG;have:(T.map mw).all id=false:=d9.mpr λz=>by
  have:=cB.mp z (mw T[i])<|bA.mpr ⟨_,cW hi,rfl⟩;rw[aG,aF hi]at c
  simp_all
 rw[this,bW]
def Fq{T:List<|ae}(hi:i<T.length-1)(c:oU (T.getD (i+1) []) (T.getD i [])=false):nG T=false:=by
 unfold nG;have:((List.range<|T.length-1).map λi=>oU (T.getD (i+1) [])<|T.getD i []).all id=false:=d9.mpr λz=>by
  have:=cB.mp z _ (bA.mpr ⟨i,cZ.mpr hi,rfl⟩)
  simp_all
 rw[this,bO]
def FI{T:List<|ae}(h1:∀i,i<T.length->mw (T.getD i [])=true)(h2:∀i,i<T.length-1->oU (T.getD (i+1) []) (T.getD i [])=true):nG T=true:=by
 unfold nG;rw[bE];refine⟨cB.mpr λb hb=>?_,cB.mpr λb hb=>?_⟩
 ·obtain⟨r,d,rfl⟩:=bA.mp hb;obtain⟨i,hi,e⟩:=cH d;have:=h1 i hi;rw[aG,aF hi,e]at this;exact this
 ·obtain⟨i,hi,rfl⟩:=bA.mp hb;exact h2 i<|cZ.mp hi
def Bp{n:Nat}{T:List<|ae}(h:Tw S n rs T)(hl:T.length<=1000)(hr:∀i,(T.getD i []).length<64):∃S',j_ [.ref n] S=.ok (.bl<|nG T) S'/\jL S S':=by
 have len:=h.len;have m:∀j,j<T.length->rs[j]?=some (rs.getD j 0):=λj N=>by rw[aG,aF ()];rfl
 have top:∀j:Nat,j<T.length->ng (rs.map A.ref) (j:Int)=some (.ref<|rs.getD j 0):=λj N=>nJ (k:=j) rfl (by rw[aQ,m j N];rfl);unfold j_ ow oJ;dsimp[i6,bools,jI,Nat.reduceAdd,Nat.reduceSub,h.top,dZ,show m9 .lst "list" = some true from rfl,bU];refine DO (n:=n) (xs:=rs.map .ref) (S1:=S) (jY (by dsimp[i6,bools]) h.top)
  (λi τ S1=>(∃B,τ=[.ref n,B,.unb])/\jL S S1/\∀j,j<i->mw (T.getD j [])=true)
  (λr=>∃S',RS.end (RS.seq r _)=.ok (.bl<|nG T) S'/\jL S S') ⟨⟨_,rfl⟩,Kp.refl,λj z=>absurd z<|cU _⟩ (λi τ S1 ⟨_,k,_⟩=>k.lst _ _ (λz=>z) h.top) ?_ ?_
 ·rintro i z τ S1 hz ⟨⟨B,rfl⟩,k,q⟩;rw[aQ]at hz;obtain⟨r,P,rfl⟩:=aV.mp hz;obtain⟨hi,F⟩:=h.rows.get P;have d:=k.lst _ _ (λz=>z) F;have K:=hr i;have bad:=AA hi;refine⟨[.ref n,.ref r,.unb],S1,rfl,?_⟩;generalize hR:T.getD i []=R at d K bad;have e0:=tV<|eq_nil (S:=S1++[O.lst []]) (b:=S1.length) (jj d) iR;rw[List.isEmpty_map]at e0;have h1:iG (S1++[O.lst []]) r=some (R.map .int):=jj d;obtain⟨S2,C⟩:∃S2,S2=S1++[O.lst []]:=⟨_,rfl⟩;have k2:jL S S2:=by rw[C];exact k.lay
  rw[<- C]at e0 h1;have J:=uD (cap:=[]) (t:=jt) (e:=rV (eFn kF<|iD (iE 0)<|iJ)<|LW Cn Cn (eC<|.int 1) (iE 0)<|iK sX (eC<|.int 10)<|eC<|.int 9) (τ:=[.ref n,.ref r,.unb]) (src:=jF<|iE 1) (jY (by dsimp[i6,bools]) h1) h1 (λ_=>true) (λx=>.bl<|l8 x)
   (λx hx=>by dsimp[i6,bools]) (λx hx _=>by
    obtain⟨v,_,rfl⟩:=bA.mp hx;dsimp[i6,oR,bools,LH,NN (S:=S2) (x:=v) (cc:=iK sX (eC<|.int 10)<|eC<|.int 9) (τ:=[.int v]) rfl<|by dsimp[i6,bools,Lm],l8]) (by rw[aH];lia)
  have W:((R.map A.int).filter λ_=>true).map (λx=>A.bl<|l8 x)=((R.map A.int).map l8).map A.bl:=by
   rw[cP.mpr λ_ _=>rfl,bY (g:=A.bl) (f:=l8)];rfl
  have ea:((R.map A.int).map l8).all id=(R.map A.int).all l8:=by rw[all_map];rfl
  rw[W]at J;obtain⟨S3,G⟩:∃S3,S3=S2++[O.lst<|((R.map A.int).map l8).map A.bl]:=⟨_,rfl⟩;have k3:jL S S3:=by rw[G];exact k2.lay
  have a3:=tM (S:=S2)<|(R.map A.int).map l8;have h3:iG S3 r=some (R.map .int):=by rw[G];exact jj h1
  rw[ea]at a3;rw[<- G]at J a3;have es:qt (.ref r) S3=.ok (.ref S3.length) (S3++[.lst<|(sortI R).map .int]):=by
   show opt (iG S3 r) _=_;rw[h3,i8,ints_map,i8,kq K]
  have e5:=AH<|w_ (a:=S3.length) (b:=r) (iR (S:=S3) (xs:=(sortI R).map .int))<|jj h3;unfold p6;dsimp[i6,bools,d,dZ,show m9 .lst "list" = some true from rfl,bU,<- C,e0];unfold mw at bad
  cases c1:R.isEmpty with
  | true=>
   have:R=[]:=List.isEmpty_iff.mp c1;right;refine⟨_,_,rfl,S2,?_,k2⟩;rw[bad<|by rw[this];rfl]
  | false=>
   have l0:0<R.length:=b9.mpr λz=>by rw[z]at c1;cases c1
   rw[aX l0,cV]at bad;dsimp[i6,bools,J,a3]
   cases c2:(R.map A.int).all l8 with
   | false=>
    rw[c2,bW]at bad;dsimp[i6,bools,bQ];right;refine⟨_,_,rfl,S3,?_,k3⟩;rw[bad rfl]
   | true=>
    rw[c2,cV]at bad;dsimp[i6,bools,bU,es,e5];by_cases c3:R=sortI R
    ·rw[aX c3.symm];dsimp[i6,bools,bU];left;refine⟨_,_,rfl,⟨_,rfl⟩,k3.lay,λj N=>?_⟩;by_cases z:j=i
     ·rw[z,hR];unfold mw;rw[c2,aX l0,aX c3];rfl
     ·exact q j ()
    ·rw[aY λz=>c3 z.symm];dsimp[i6,bools,bQ];right;refine⟨_,_,rfl,S3++[O.lst<|(sortI R).map .int],?_,k3.lay⟩;rw[bad<|aY c3]
 ·rintro τ S1 ⟨⟨B,rfl⟩,k,q⟩;rw[aH,len]at q;dsimp[i6,bools];refine ug (lo:=1) (hi:=(T.length:Int)) (S1:=S1) (show pY _ _=_ from BL (S1:=S1) (S2:=S1) (by dsimp[i6,bools]) (by dsimp[i6,bools,k.lst _ _ (λz=>z) h.top,aH,len]) (lF ⋯ ⋯)<|lF () ())
   (λi τ S2=>(∃B V,τ=[.ref n,B,V])/\jL S S2/\∀j,j<i->oU (T.getD (j+1) []) (T.getD j [])=true)
   (λr=>∃S',RS.end (RS.seq r _)=.ok (.bl<|nG T) S'/\jL S S') ⟨⟨_,_,rfl⟩,k,λj z=>absurd z<|cU _⟩ ?_ ?_
  ·rintro i τ S2 hi ⟨⟨B,V,rfl⟩,k2,p⟩;have hi:i+1<T.length:=()
   have L:=h.nP k2;have bad:=Fq (T:=T) (i:=i) ();have Y:ng (rs.map A.ref) (1+(i:Int))=some (.ref<|rs.getD (i+1) 0):=by rw[show 1+(i:Int)=((i+1:Nat):Int)by lia];exact top _ hi
   have t2:ng (rs.map A.ref) (1+(i:Int)-1)=some (.ref<|rs.getD i 0):=by rw[show 1+(i:Int)-1=(i:Int)by lia];exact top _ ()
   have r1:=(L.rows.get<|m (i+1) hi).2;have r2:=(L.rows.get<|m i ()).2;have b1:=hr<|i+1;generalize hU:T.getD (i+1) []=U at r1 bad b1;generalize hR:T.getD i []=R at r2 bad;unfold pS;dsimp[i6,bools,L.top,Y,t2,r1,r2,aH];unfold oU at bad;by_cases Z:U.length<=R.length
   ·rw[aX Z,cV]at bad;rw[aY<|show ¬(R.length:Int)<(U.length:Int)by lia];have J:=wZ (cap:=[some 0,some 2]) (t:=jt) (e:=iK LQ (iK j8 (iK j8 (iE 1)<|iE 2)<|iE 0)<|iK j8 (iK j8 (iE 1)<|iK aSub (iE 2)<|eC<|.int 1)<|iE 0) (τ:=[.ref n,B,.int<|1+(i:Int)]) (src:=mY<|iX (f1 kj)<|iD (iK j8 (iE 0)<|iE 2)<|iJ) (S:=S2) (S1:=S2) (lo:=0) (hi:=(U.length:Int))
     (mV (by dsimp[i6,bools,L.top,Y,r1,aH])<|lF () ()) (λ_=>true) (λk=>.bl<|decide<|R.getD k.toNat 0<U.getD k.toNat 0)
     (λk _ _=>by dsimp[i6,bools]) (λk k0 k1 _=>by
      have x1:=nZ (r:=U) (i:=k) (k:=k.toNat) () ();have x2:=nZ (r:=R) (i:=k) (k:=k.toNat) () ();dsimp[i6,bools,L.top,Y,t2,r1,r2,x1,x2]) ()
    have W:((jG 0 (U.length:Int)).filter λ_=>true).map (λk=>A.bl<|decide<|R.getD k.toNat 0<U.getD k.toNat 0)=((List.range U.length).map λi=>decide<|R.getD i 0<U.getD i 0).map A.bl:=by
     rw[cP.mpr λ_ _=>rfl];unfold jG;rw[bY,bY,show((U.length:Int)-0).toNat=U.length by lia];refine gI λj N=>?_;show A.bl (decide<|R.getD (0+(j:Int)).toNat 0<U.getD (0+(j:Int)).toNat 0)=_;rw[show(0+(j:Int)).toNat=j by lia];rfl
    rw[W]at J;dsimp[i6,bools,J,tM]
    cases c:((List.range U.length).map λi=>decide<|R.getD i 0<U.getD i 0).all id with
    | true=>
     dsimp[i6,bools,bU];left;refine⟨_,_,rfl,⟨_,_,rfl⟩,k2.lay,λj N=>?_⟩;by_cases z:j=i
     ·rw[z,hU,hR];unfold oU;rw[aX Z,c];rfl
     ·exact p j ()
    | false=>
     dsimp[i6,bools,bQ];right;refine⟨_,_,rfl,S2++[O.lst<|((List.range U.length).map λi=>decide<|R.getD i 0<U.getD i 0).map A.bl],?_,k2.lay⟩;rw[bad c]
   ·rw[aX<|show(R.length:Int)<(U.length:Int)by lia];dsimp[i6,bools];right;refine⟨_,_,rfl,S2,?_,k2⟩;rw[bad<|by rw[aY Z];rfl]
  ·rintro τ S2 ⟨⟨B,V,rfl⟩,k2,p⟩;rw[FI q λi hi=>p i ()];dsimp[i6,bools];exact⟨_,rfl,k2⟩
abbrev kN (S:iM)(n:Nat)(x:A)(c:Nat):Prop:=∃d,mG S n x=some d/\d.showable=true/\mF d<=c
def kN.mono{n:Nat}{x:A}(h:kN S n x c)(hc:c<=e):kN S n x e:=by
 obtain⟨d,a,b,q⟩:=h;exact⟨d,a,b,bX q hc⟩
def kN.kp{n:Nat}{x:A}(h:kN S n x c)(k:jL S S'):kN S' n x c:=by
 obtain⟨d,a,b,q⟩:=h;exact⟨d,nY (λm xs e=>k.lst m xs (λz=>z) e) _ _ _ a,b,q⟩
def kN.int{n:Nat}{i:Int}(h:i.natAbs<2 ^ 200):kN S (n+1) (.int i) 1921:=by
 refine⟨.int i,rfl,?_,by dsimp[mF];exact aL _⟩;dsimp[PyData.showable,d_];by_cases z:i.natAbs=0
 ·rw[z];decide
 ·have:=(Nat.log2_lt z).mpr h
  lia
def kN.bl{n:Nat}:kN S (n+1) (.bl b) 1921:=⟨.bool b,rfl,by dsimp[PyData.showable],by dsimp[mF];decide⟩
def kN.jC{n:Nat}:kN S (n+1) .jC 1921:=⟨.none,rfl,by dsimp[PyData.showable],by dsimp[mF];decide⟩
def kN.str{n:Nat}{x:Str}(h:(reprText x).length<=1921):kN S (n+1) (.str x) 1921:=⟨.str x,rfl,by dsimp[PyData.showable],by dsimp[mF];exact h⟩
theorem CD{n:Nat}:∀{xs:ad},(∀x∈xs,kN S n x c)->∃ds,n8 (mG S n) xs=some ds/\PyData.showableAll ds=true/\vY ds<=(c+2) * xs.length
 | [],_=>⟨[],rfl,by dsimp[PyData.showableAll],by dsimp[vY];exact cj _⟩
 | x::xs,h=>by
  obtain⟨d,a,b,q⟩:=h x<|a_ ..;obtain⟨ds,g,f,q'⟩:=CD λy hy=>h y<|aN _ hy;refine⟨d::ds,by unfold n8;rw[a,bw,g];rfl,by dsimp[PyData.showableAll,b,f,Bool.and_self],?_⟩;dsimp[vY,bB,Nat.mul_succ]
  lia
def kN.lst{n r:Nat}{xs:ad}(h:iG S r=some xs)(hx:∀x∈xs,kN S n x c):kN S (n+1) (.ref r) ((c+2) * xs.length+3):=by
 obtain⟨ds,a,b,q⟩:=CD hx;refine⟨.list ds,by show(iG S r).bind _=_;rw[h,bw,a];rfl,by dsimp[PyData.showable];exact b,by dsimp[mF];lia⟩
def kN.tup{n:Nat}{xs:ad}(hx:∀x∈xs,kN S n x c):kN S (n+1) (.tup xs) ((c+2) * xs.length+3):=by
 obtain⟨ds,a,b,q⟩:=CD hx;refine⟨.tuple ds,by show(n8 (mG S n) xs).map _=_;rw[a];rfl,by dsimp[PyData.showable];exact b,by dsimp[mF];lia⟩
def kN.Vz{x:A}(h:kN S 9 x c)(hc:c<=16777216):UK S x:=by
 obtain⟨d,a,b,q⟩:=h;exact⟨d,a,b,by rw[cO];lia⟩
def kN.row{n r:Nat}{R:ae}(h:iG S r=some (R.map .int))(hl:R.length<=62)(hb:∀x∈R,x.natAbs<2 ^ 200):kN S (n+2) (.ref r) 120000:=by
 refine(kN.lst (n:=n+1) (c:=1921) h λx hx=>?_).mono (by rw[aH];lia);obtain⟨v,hv,rfl⟩:=bA.mp hx;exact kN.int<|hb v hv
end K59
namespace K59
open PySem L2 Am
theorem N6{r:Nat}{R:ae}(h:iG S r=some (R.map .int)):∀(k t:Nat) (x1:A),k+t=R.length->∃x1',nc (jv r R.length) (je 1) jt (iE 1) k t [a0,x1] S=.ok ((R.drop t).map .int,[a0,x1']) S
 | 0,t,x1,e=>by
  refine⟨x1,?_⟩;have hf:(jv r R.length).fin S=true:=by
   show(match iG S r with
    | some ys=>decide (ys.length<=R.length)
    | none=>false)=true
   rw[h];simp
  unfold nc;rw[bf hf,dP ()];rfl
 | k+1,t,x1,e=>by
  have d:t<R.length:=()
  obtain⟨x1',e1⟩:=N6 (a0:=a0) h k (t+1) (.int R[t]) ();refine⟨x1',?_⟩;have hg:(jv r R.length).get t S=some (.int R[t]):=by
   show(iG S r).bind _=_;rw[h,bw,aQ,aF d];rfl
  unfold nc;dsimp[i6,bools,hg,e1];rw[dz d];rfl
theorem DN{n:Nat}{T:List<|ae}(h:Tab S n rs T):∀(k t:Nat) (x0 x1:A),k+t=T.length->lO (jv n T.length) (je 0) jt (jF<|iE 0) (je 1) jt (iE 1) k t [x0,x1] S=.ok ((T.drop t).flatten.map .int) S
 | 0,t,x0,x1,e=>by
  have hf:(jv n T.length).fin S=true:=by
   show(match iG S n with
    | some ys=>decide (ys.length<=T.length)
    | none=>false)=true
   rw[h.top];simp[h.len]
  unfold lO;rw[bf hf,dP ()];rfl
 | k+1,t,x0,x1,e=>by
  have g:t<T.length:=()
  have j:=h.len;have hi:t<rs.length:=()
  have d:=(h.rows.get (i:=t) (r:=rs[t])<|aF hi).2;have hg:(jv n T.length).get t S=some (.ref rs[t]):=by
   show(iG S n).bind _=_;rw[h.top,bw,aQ,aF hi];rfl
  obtain⟨f,e1⟩:=N6 (a0:=.ref rs[t]) d (T.getD t []).length 0 x1 rfl;have e2:=DN h k (t+1) (.ref rs[t]) f ();have hs:jF (iE 0) [.ref rs[t],x1] S=.ok (jv rs[t] ((T.getD t []).map A.int).length) S:=jY (by dsimp[i6,bools]) d;rw[aH]at hs;unfold lO;dsimp[i6,bools,hg,hs];show R.jD (nc (jv rs[t] (T.getD t []).length) (je 1) jt (iE 1) (T.getD t []).length 0 [.ref rs[t],x1] S) _=_;rw[e1,R.jf];show R.jD (lO (jv n T.length) (je 0) jt (jF<|iE 0) (je 1) jt (iE 1) k (t+1) [.ref rs[t],f] S) _=_;rw[e2,R.jf,dI,l_ g,bI,b5]
def Hq{N:Nat}{l:ae}(h:l.Perm<|jG 1<|(N:Int)+1):sortI l=jG 1 ((N:Int)+1):=
 ((sortI_perm l).trans h).eq_of_pairwise (λ_ _ _ _ a b=>iz a b) (pV l) (by
  unfold jG;rw[fX];exact List.pairwise_lt_range.imp<|by intro a b h;lia)
abbrev Gp (T:List<|ae):Prop:=∀r∈T,∀x∈r,1<=x/\x<=1000000000
def xA{r:ae}(h:mw r=true):r≠[]/\Sy.A3 r/\∀x∈r,1<=x/\x<=1000000000:=by
 unfold mw at h;rw[bE,bE]at h;obtain⟨a,b,c⟩:=h;refine⟨b9.mp<|cS b,?_,λx hx=>?_⟩
 ·have p:=pV r;rw[<- cS c]at p;exact p
 ·have:=cB.mp a (.int x)<|bA.mpr ⟨x,hx,rfl⟩;have:(decide (1<=x) && decide (x<=1000000000))=true:=this;simpa using this
def G1{R:ae}(h:oU U R=true):Sy.Fits U R:=by
 unfold oU at h;rw[bE]at h;obtain⟨a,b⟩:=h;have a:=cS a;refine⟨a,λj x y hx hy=>?_⟩;have d:=(aJ.mp hy).1;have:=cB.mp b _<|bA.mpr ⟨j,cZ.mpr d,rfl⟩;have:=cS this;rw[aG,hx,aG,hy]at this;exact this
def u9{T:List<|ae}(h:nG T=true):(∀r∈T,mw r=true)/\∀i,i<T.length-1->oU (T.getD (i+1) []) (T.getD i [])=true:=by
 unfold nG at h;rw[bE]at h;refine⟨λr d=>cB.mp h.1 _<|bA.mpr ⟨r,d,rfl⟩,λi hi=>cB.mp h.2 _<|bA.mpr ⟨i,cZ.mpr hi,rfl⟩⟩
theorem F8:∀{T:List<|ae},(∀r∈T,mw r=true)->(∀i,i<T.length-1->oU (T.getD (i+1) []) (T.getD i [])=true)->Sy.lK T
 | [],_,_=>trivial
 | [q],h1,_=>by
  obtain⟨a,b,_⟩:=xA<|h1 q<|aW.mpr rfl;exact⟨a,b,(λu d=>nomatch d),trivial⟩
 | q::p::T,h1,h2=>by
  obtain⟨a,b,_⟩:=xA<|h1 q<|a_ ..;exact⟨a,b,(λu d=>by cases d;exact G1<|h2 0<|by simp),F8 (λr f=>h1 r<|aN _ f) λi hi=>h2 (i+1)<|by simp at hi ⊢;lia⟩
def vJ(h:nG T=true):Sy.lK T/\Gp T:=⟨F8 (u9 h).1 (u9 h).2,λr d=>(xA<|(u9 h).1 r d).2.2⟩
def Gu{r:ae}(h1:r≠[])(h2:Sy.A3 r)(hb:∀x∈r,1<=x/\x<=1000000000):mw r=true:=by
 unfold mw;have s:sortI r=r:=(sortI_perm r).eq_of_pairwise (λ_ _ _ _ a b=>iz a b) (pV r) h2;rw[bE,bE];refine⟨cB.mpr λx hx=>?_,aX<|b9.mpr h1,aX s.symm⟩;obtain⟨v,hv,rfl⟩:=bA.mp hx;have:=hb v hv;show(decide (1<=v) && decide (v<=1000000000))=true;rw[aX this.1,aX this.2];rfl
def G5{R:ae}(h:Sy.Fits U R):oU U R=true:=by
 unfold oU;rw[bE];refine⟨aX h.1,cB.mpr λb hb=>?_⟩;obtain⟨i,hi,rfl⟩:=bA.mp hb;have hi:=cZ.mp hi;exact aX<|h.2 i _ _ (Am.getD_at (by have:=h.1;lia))<|Am.getD_at hi
def zB(ta:Sy.lK T)(bd:Gp T):nG T=true:=by
 refine FI (λi hi=>?_) λi hi=>?_
 ·have:=pT i ta;rw[l_ hi]at this;exact Gu this.1 this.2.1 (bd _<|by rw[aG,aF hi];exact cW hi)
 ·exact G5<|E_ ta ()<|by rw[l_<|show i+1<T.length by lia];rfl
abbrev lE (P Q:List<|ae):Bool:=nG P && (nG Q && (decide (P.map List.length=Q.map List.length) && (decide (Q.flatten.length<=40) && decide (sortI Q.flatten=jG 1 ((Q.flatten.length:Int)+1)))))
def um{P Q:List<|ae}:(P.map λr=>(r.length:Int))=(Q.map λr=>(r.length:Int)) ↔ P.map List.length=Q.map List.length:=by
 constructor
 ·intro h;have:=b_ (List.map Int.toNat) h;rw[bY,bY]at this;exact this
 ·intro h;have:=b_ (List.map λk:Nat=>(k:Int)) h;rw[bY,bY]at this;exact this
def Ht{n:Nat}{P Q:List<|ae}(h:Tab S n rs P)(h':Tab S m qs Q)(l1:P.length<=1000)(l2:Q.length<=1000)(r1:∀i,(P.getD i []).length<64)(r2:∀i,(Q.getD i []).length<64)(fl:Q.flatten.length<64):∃S',jm [.ref n,.ref m] S=.ok (.bl<|lE P Q) S'/\jL S S':=by
 obtain⟨S1,e1,k1⟩:=wL (A5 h) l1 r1;have h1:=h.nP k1;have B:=h'.nP k1;obtain⟨S2,e2,k2⟩:=wL (A5 B) l2 r2;have Y:=h1.nP k2;have N:=B.nP k2;have G:oX [.ref n] S2=.ok (.ref S2.length) (S2++[.lst<|(P.map λr=>(r.length:Int)).map .int]):=by
  unfold oX wU wN;dsimp[i6,bools,jI,Nat.reduceAdd,Nat.reduceSub,mQ (cap:=[]) (src:=jF<|iE 0) (τ:=[.ref n]) Y (jY (by dsimp[i6,bools]) Y.top) ()]
 obtain⟨S3,g⟩:∃S3,S3=S2++[O.lst<|(P.map λr=>(r.length:Int)).map .int]:=⟨_,rfl⟩;have k3:jL S2 S3:=by rw[g];kt_k
 have x3:iG S3 S2.length=some ((P.map λr=>(r.length:Int)).map .int):=by rw[g];exact iR
 rw[<- g]at G;have j:=N.nP k3;have F:oX [.ref m] S3=.ok (.ref S3.length) (S3++[.lst<|(Q.map λr=>(r.length:Int)).map .int]):=by
  unfold oX wU wN;dsimp[i6,bools,jI,Nat.reduceAdd,Nat.reduceSub,mQ (cap:=[]) (src:=jF<|iE 0) (τ:=[.ref m]) j (jY (by dsimp[i6,bools]) j.top) ()]
 obtain⟨S4,q⟩:∃S4,S4=S3++[O.lst<|(Q.map λr=>(r.length:Int)).map .int]:=⟨_,rfl⟩;have U:jL S3 S4:=by rw[q];kt_k
 have x4:iG S4 S3.length=some ((Q.map λr=>(r.length:Int)).map .int):=by rw[q];exact iR
 rw[<- q]at F;have t:=j.nP U;have C:=AH<|w_ (U.lst _ _ (λz=>z) x3) x4;have J:z9 [none,none] (jF<|iE 1) (je 0) jt (jF<|iE 0) (je 1) jt (iE 1) [.ref n,.ref m,.unb] S4=.ok (.ref S4.length) (S4++[.lst<|Q.flatten.map .int]):=by
  have e:=DN t Q.length 0 .unb .unb rfl;rw[dI]at e;unfold z9;rw[jY (S1:=S4) (by dsimp[i6,bools]) t.top,R.jZ,aH,t.len];show R.jD (lO (jv m Q.length) _ _ _ _ _ _ Q.length 0 [.unb,.unb] S4) _=_;rw[e,R.jf,jE<|by rw[aH];lia]
 obtain⟨S5,k⟩:∃S5,S5=S4++[O.lst<|Q.flatten.map .int]:=⟨_,rfl⟩;have k5:jL S4 S5:=by rw[k];kt_k
 have x5:iG S5 S4.length=some (Q.flatten.map .int):=by rw[k];exact iR
 rw[<- k]at J;have K:qt (.ref S4.length) S5=.ok (.ref S5.length) (S5++[.lst<|(sortI Q.flatten).map .int]):=by
  show opt (iG S5 S4.length) _=_;rw[x5,i8,ints_map,i8,kq fl]
 obtain⟨S6,d⟩:∃S6,S6=S5++[O.lst<|(sortI Q.flatten).map .int]:=⟨_,rfl⟩;have k6:jL S5 S6:=by rw[d];kt_k
 have L:iG S6 S5.length=some ((sortI Q.flatten).map .int):=by rw[d];exact iR
 rw[<- d]at K;have W:(sortI Q.flatten).length=Q.flatten.length:=(sortI_perm _).length_eq;have li:mW (.rng 1<|(Q.flatten.length:Int)+1) S6=.ok (.ref S6.length) (S6++[O.lst<|(jG 1<|(Q.flatten.length:Int)+1).map .int]):=yP (BX (show(-1000000:Int)<=1 by decide) ⋯ (show -1000000<=(Q.flatten.length:Int)+1 by lia) () ());have x7:iG (S6++[O.lst<|(jG 1<|(Q.flatten.length:Int)+1).map .int]) S5.length=some ((sortI Q.flatten).map .int):=jj L;have Z:=tV<|w_ (a:=S5.length) (b:=S6.length) x7 iR;have f:=((k1.trans k2).trans k3).trans U;unfold jm jU jW lE
 cases c1:nG P with
 | false=>
  rw[c1]at e1;dsimp[i6,oR,bools,jI,Nat.reduceAdd,Nat.reduceSub,e1,bQ,bW];exact⟨_,rfl,k1⟩
 | true=>
  rw[c1]at e1
  cases c2:nG Q with
  | false=>
   rw[c2]at e2;dsimp[i6,oR,bools,jI,Nat.reduceAdd,Nat.reduceSub,e1,bU,e2,bQ,bW,cV];exact⟨_,rfl,k1.trans k2⟩
  | true=>
   rw[c2]at e2;by_cases c3:P.map List.length=Q.map List.length
   ·rw[aX<|um.mpr c3,bU]at C;rw[aX c3];by_cases V:Q.flatten.length<=40
    ·dsimp[i6,oR,bools,jI,Nat.reduceAdd,Nat.reduceSub,e1,e2,bU,G,F,C,J,K,L,aH,W,aX V,aX<|show(Q.flatten.length:Int)<=40 by lia,li,Z,cV];exact⟨_,rfl,((f.trans k5).trans k6).lay⟩
    ·dsimp[i6,oR,bools,jI,Nat.reduceAdd,Nat.reduceSub,e1,e2,bU,G,F,C,J,K,L,aH,W,aY V,aY<|show ¬(Q.flatten.length:Int)<=40 by lia,cV,bW];exact⟨_,rfl,(f.trans k5).trans k6⟩
   ·rw[aY λz=>c3<|um.mp z,bQ]at C;rw[aY c3];dsimp[i6,oR,bools,jI,Nat.reduceAdd,Nat.reduceSub,e1,e2,bU,G,F,C,cV,bW];exact⟨_,rfl,f⟩
end K59
namespace K59
open PySem L2 Am
abbrev sA:Nat->List (ae)->List (Int×A)
 | _,[]=>[]
 | t,q::Q=>(q.map λk=>(k,A.int (t:Int)))++sA (t+1) Q
def GI{kvs:List<|Int×A}{k:Int}(h:k∉kvs.map (·.1)):mj kvs k=none:=by
 unfold mj;rw[List.find?_eq_none.mpr λx hx=>by simpa using λe=>h<|bA.mpr ⟨x,hx,e⟩];rfl
def Na{kvs:List<|Int×A}{k:Int}{v:A}(h:k∉kvs.map (·.1)):CJ kvs k v=kvs++[(k,v)]:=by
 unfold CJ;rw[GI h];rfl
def LP{S:iM}{n:Nat}(h:n<S.length):rT (S.set n<|.pW kvs) n=some kvs:=uI<|bK h
def J5{S:iM}{n:Nat}(h:n≠m):iG (S.set n o) m=iG S m:=by unfold iG;rw[bN h]
def sL{S:iM}{n:Nat}(h:S[n]?=some o):S.set n o=S:=by
 obtain⟨d,e⟩:=aJ.mp h;rw[<- e];exact gj d
theorem JG{r n a:Nat}{R:ae}(hn:n≠r)(hl:R.length<=1000)(nd:R.Nodup):∀(k t:Nat) (x2:A) (S:iM) (kvs:List<|Int×A),k+t=R.length->iG S r=some (R.map .int)->n<S.length->rT S n=some kvs->kvs.length<=1000+t->(∀x∈R.drop t,x∉kvs.map (·.1)) ->
  ∃x2',wF sP (jv r R.length) (je 2) jt (iE 2) (iE 0) n k t [.int (a:Int),.ref r,x2] S=.ok [.int (a:Int),.ref r,x2'] (S.set n<|.pW<|kvs++(R.drop t).map λk=>(k,A.int (a:Int)))
 | 0,t,x2,S,kvs,e,h,hS,hk,_,_=>by
  have hf:(jv r R.length).fin S=true:=by
   show(match iG S r with
    | some ys=>decide (ys.length<=R.length)
    | none=>false)=true
   rw[h];simp
  refine⟨x2,?_⟩;unfold wF;rw[bf hf,dP (),dO,bM];congr 1;exact(sL<|oZ hk).symm
 | k+1,t,x2,S,kvs,e,h,hS,hk,hz,hd=>by
  have g:t<R.length:=()
  have f:R.drop t=R[t]::R.drop (t+1):=dz g;have j:R[t]∉kvs.map (·.1):=hd _ (by rw[f];exact a_ ..);have d:(R.drop t).Nodup:=nd.sublist<|List.drop_sublist _ _;rw[f]at d;have hg:(jv r R.length).get t S=some (.int R[t]):=by
   show(iG S r).bind _=_;rw[h,bw,aQ,aF g];rfl
  have st:sP (.ref n) (.int R[t]) (.int (a:Int)) S=.ok Unit.unit (S.set n<|.pW<|kvs++[(R[t],.int (a:Int))]):=by
   show opt (rT S n) _=_;rw[hk,i8,kq<|show kvs.length<sizeLine by rw[cO];lia,Na j]
  obtain⟨x2',e1⟩:=JG (a:=a) hn hl nd k (t+1) (.int R[t]) (S.set n<|.pW<|kvs++[(R[t],.int (a:Int))]) (kvs++[(R[t],.int (a:Int))]) () (by rw[J5 hn];exact h) (by rw[aZ];exact hS) (LP hS) (by rw[aO];show kvs.length+1<=_;lia) (λx hx=>by
   rw[b5,bT,not_or];refine⟨hd x<|by rw[f];exact aN _ hx,λz=>?_⟩;have:x=R[t]:=by simpa using z
   rw[this]at hx;exact(bJ.mp d).1 hx)
  refine⟨x2',?_⟩;unfold wF;dsimp[i6,bools,hg,st,e1,gO];rw[f,bP,bZ];rfl
theorem Fd{n:Nat}{Q:List<|ae}(nd:Q.flatten.Nodup)(hl:Q.flatten.length<=1000):∀(k t:Nat) (x0 x1 x2:A) (S:iM) (kvs:List<|Int×A),k+t=Q.length->Tab S m qs Q->n∉m::qs->n<S.length->rT S n=some kvs->kvs.length+(Q.drop t).flatten.length<=1000->(∀x∈(Q.drop t).flatten,x∉kvs.map (·.1)) ->
  ∃τ',qL sP (v9 m Q.length) (Ft 2<|v_ (je 0)<|v_ (je 1) Em) jt (jF<|iE 1) (je 2) jt (iE 2) (iE 0) n k t [x0,x1,x2] S=.ok τ' (S.set n<|.pW<|kvs++sA t (Q.drop t))
 | 0,t,x0,x1,x2,S,kvs,e,h,hn,hS,hk,_,_=>by
  have hf:(v9 m Q.length).fin S=true:=by
   show(match iG S m with
    | some ys=>decide (ys.length=Q.length)
    | none=>false)=true
   rw[h.top];simp[h.len]
  refine⟨[x0,x1,x2],?_⟩;unfold qL;rw[bf hf,dP ()];show R.ok _ S=.ok _ (S.set n<|.pW<|kvs++[]);rw[bM,sL<|oZ hk]
 | k+1,t,x0,x1,x2,S,kvs,e,h,hn,hS,hk,hz,hd=>by
  have F:t<Q.length:=()
  have len:=h.len;have d:qs[t]?=some (qs.getD t 0):=by rw[aG,aF ()];rfl
  have f:=(h.rows.get d).2;have B:=l_ F;rw[B,bI]at hz hd;rw[aO]at hz;have q:(Q.drop t).flatten.Nodup:=by
   have:Q.flatten=(Q.take t).flatten++(Q.drop t).flatten:=by rw[<- di,dD]
   rw[this]at nd;exact(dc.mp nd).2.1
  rw[B,bI,dc]at q;have hg:(v9 m Q.length).get t S=some (.tup [.int (t:Int),.ref<|qs.getD t 0]):=by
   show(iG S m).bind _=_;rw[h.top,bw,aQ,d];rfl
  have j:n≠qs.getD t 0:=λz=>hn (aN _<|by rw[z];exact bg d);have hs:jF (iE 1) [.int (t:Int),.ref<|qs.getD t 0,x2] S=.ok (jv (qs.getD t 0) ((Q.getD t []).map A.int).length) S:=jY (by dsimp[i6,bools]) f;rw[aH]at hs;obtain⟨g,e1⟩:=JG (a:=t) j () q.1 (Q.getD t []).length 0 x2 S kvs () f hS hk () (λx hx=>hd x<|cC _<|by rwa [dI]at hx);rw[dI]at e1;have kp:Kp (·=n) S (S.set n<|.pW<|kvs++(Q.getD t []).map λk=>(k,A.int (t:Int))):=Kp.refl.Ri<|.inl rfl;have G:Tab (S.set n<|.pW<|kvs++(Q.getD t []).map λk=>(k,A.int (t:Int))) m qs Q:=h.kp kp λr C z=>hn (by rw[<- z];exact C);obtain⟨τ',e2⟩:=Fd nd hl k (t+1) (.int (t:Int)) (.ref<|qs.getD t 0) g _ _ () G hn (by rw[aZ];exact hS) (LP hS) (by rw[aO,aH];lia) (λx hx=>by
   rw[b5,bT,not_or];refine⟨hd x<|aU _ hx,λz=>?_⟩;rw[bY]at z;obtain⟨y,hy,rfl⟩:=bA.mp z;exact q.2.2 y hy y hx rfl)
  refine⟨τ',?_⟩;rw[gO]at e2;unfold qL;dsimp[i6,bools,hg,kq<|show([_,_]:ad).length=2 from rfl,hs];show R.jD (wF sP (jv (qs.getD t 0) (Q.getD t []).length) (je 2) jt (iE 2) (iE 0) n (Q.getD t []).length 0 [.int (t:Int),.ref<|qs.getD t 0,x2] S) _=_;rw[e1,R.jf];show qL sP (v9 m Q.length) _ _ _ _ _ _ _ n k (t+1) [.int (t:Int),.ref<|qs.getD t 0,g] _=_;rw[e2,B];show _=R.ok τ' (S.set n<|.pW<|kvs++((Q.getD t []).map (λk=>(k,A.int (t:Int)))++sA (t+1) (Q.drop<|t+1)));rw[bZ]
theorem DE{t:Nat}{k:Int}:∀{q:ae},k∈q->(q.map λk=>(k,A.int (t:Int))).find? (λkv=>decide<|kv.1=k)=some (k,.int (t:Int))
 | [],c=>nomatch c
 | x::q,c=>by
  rw[bP,dm];by_cases e:x=k
  ·subst e;simp
  ·rw[show decide ((x,A.int (t:Int)).1=k)=false from aY e];exact DE (by
    rcases bh.mp c with z|z
    ·exact absurd z.symm e
    ·exact z)
theorem Ge:∀{Q:List<|ae}{t:Nat}{k:Int},(∃q∈Q,k∈q)->mj (sA t Q) k=some (.int ((t+Sy.wh Q k:Nat):Int))
 | [],_,_,h=>by obtain⟨q,j,_⟩:=h;cases j
 | q::Q,t,k,h=>by
  rw[Sy.nS];show mj ((q.map λk=>(k,A.int (t:Int)))++sA (t+1) Q) k=_;unfold mj;rw[List.find?_append];by_cases c:k∈q
  ·rw[bf c];rw[DE c];rfl
  ·rw[bu c];have:(q.map λk=>(k,A.int (t:Int))).find? (λg=>decide<|g.1=k)=none:=List.find?_eq_none.mpr λx hx=>by
    obtain⟨y,hy,rfl⟩:=bA.mp hx;simpa using λe:y=k=>c<|by rw[<- e];exact hy
   rw[this];have h':∃p∈Q,k∈p:=by
    obtain⟨p,hp,d⟩:=h
    rcases bh.mp hp with e|e
    ·rw[e]at d;exact absurd d c
    ·exact⟨p,e,d⟩
   have f:=Ge (t:=t+1) h';unfold mj at f;show((sA (t+1) Q).find? _).map _=_;rw[f];congr 3
   lia
theorem Jm:∀(Q:List<|ae) (t:Nat),(sA t Q).length=Q.flatten.length
 | [],_=>rfl
 | q::Q,t=>by
  show((q.map λk=>(k,A.int (t:Int)))++sA (t+1) Q).length=_;rw[aO,aH,Jm Q<|t+1,bI,aO]
def Pc{n:Nat}{k:Int}:G8 (.ref n) (.int k) S=opt (rT S n) λkvs=>opt (mj kvs k) λv=>.ok v S:=rfl
theorem DJ:∀(U:List<|ae) (a i:Nat),((Sy.lD U a).2.getD i []).length<=(U.getD i []).length
 | [],_,_=>aL _
 | r::T,0,0=>by show r.dropLast.length<=r.length;rw[eY];lia
 | r::T,0,i+1=>aL _
 | r::T,a+1,0=>by show(r.set _ _).length<=r.length;rw[aZ];exact aL _
 | r::T,a+1,i+1=>DJ T a i
def G9{S:iM}{n:Nat}{T:List<|ae}(h:Tab S n rs T)(hl:T.length<=1000):∃(qs:ag) (m:Nat) (S':iM),rB [.ref n] S=.ok (.ref m) S'/\Tab S' m qs T/\jL S S'/\∀r∈m::qs,S.length<=r:=by
 obtain⟨qs,m,S1,e1,h1,k1,d⟩:=nW (cap:=[]) (τ:=[.ref n]) (src:=jF<|iE 0) h (jY (by dsimp[i6,bools]) h.top) ();unfold rB xK xD;dsimp[i6,bools,jI,Nat.reduceAdd,Nat.reduceSub,e1];exact⟨qs,m,S1,rfl,h1,k1,d⟩
abbrev CF (P Q:List<|ae)(N:Nat):ae:=Sy.we (λk=>Sy.wh Q (k:Int)) N P
structure Pr (P Q:List (ae))(N:Nat):Prop where
 tp:Sy.lK P
 tq:Sy.lK Q
 bp:Gp P
 sh:P.map List.length=Q.map List.length
 le:N<=40
 pm:Q.flatten.Perm<|jG 1<|(N:Int)+1
def Pr.fl{P Q:List<|ae}{N:Nat}(h:Pr P Q N):Q.flatten.length=N:=by rw[h.pm.length_eq,l9];lia
def uM(T:List<|ae):T.flatten.length=(T.map List.length).sum:=gJ
def Pr.small{P Q:List<|ae}{N:Nat}(h:Pr P Q N):P.length<=40/\Q.length<=40/\(∀i,(P.getD i []).length<=40)/\∀i,(Q.getD i []).length<=40:=by
 have s:=h.fl;rw[uM]at s;have l:=h.le;have a:=Tb.tP<|Sy.oA h.tq;have b:=Tb.vB<|Q.map List.length;have c:=b_ List.length h.sh;rw[aH]at a;rw[aH,aH]at c;refine⟨(),(),λi=>?_,λi=>?_⟩
 ·rw[<- Tb.mq,h.sh];have:=b i;lia
 ·rw[<- Tb.mq];have:=b i;lia
def Pr.bq{P:List<|ae}{N:Nat}(h:Pr P Q N):Gp Q:=λr d x hx=>by
 have:x∈jG 1 ((N:Int)+1):=h.pm.mem_iff.mp<|cN.mpr ⟨r,d,hx⟩;have:=kW.mp this;have:=h.le
 lia
def Ii{P:List<|ae}{N:Nat}(h:Pr P Q N):lE P Q=true:=by
 unfold lE;have fl:=h.fl;have le:=h.le;rw[zB h.tp h.bp,zB h.tq h.bq,aX h.sh,aX<|show Q.flatten.length<=40 by lia,fl,aX<|Hq h.pm];rfl
def Jg{P Q:List<|ae}(h:lE P Q=true):Pr P Q Q.flatten.length:=by
 unfold lE at h;rw[bE,bE,bE,bE]at h;obtain⟨a,b,c,d,e⟩:=h;have e:=cS e;exact⟨(vJ a).1,(vJ b).1,(vJ a).2,cS c,cS d,by rw[<- e];exact(sortI_perm _).symm⟩
def xj{S:iM}{n N:Nat}{P:List<|ae}(h:Tab S n rs P)(h':Tab S m qs Q)(pr:Pr P Q N):∃(L:Nat) (S':iM),kc [.ref n,.ref m] S=.ok (.ref L) S'/\iG S' L=some ((CF P Q N).map .int)/\jL S S'/\S.length<=L:=by
 obtain⟨z1,z2,z3,z4⟩:=pr.small;obtain⟨S1,e1,k1⟩:=Ht h h' () () (λi=>by have:=z3 i;lia) (λi=>by have:=z4 i;lia) (by have:=pr.fl;have:=pr.le;lia);rw[Ii pr]at e1;have h1:=h.nP k1;obtain⟨cs,c,S2,e2,h2,k2,fr2⟩:=G9 h1 ();have W:=k1.trans k2;have B:=h'.nP W;have nd:Q.flatten.Nodup:=pr.pm.nodup_iff.mpr<|tH 1 _;have fl:=pr.fl;have le:=pr.le;obtain⟨τd,e3⟩:=Fd (n:=S2.length) (qs:=qs) (m:=m) nd () Q.length 0 .unb .unb .unb (S2++[.pW []]) [] () (B.nP Kp.refl.lay) (λz=>by have:=B.lt _ z;lia) (by simp) (uI<|by simp) (by rw[dI];show 0+_<=_;lia) λx _ z=>nomatch z;have sd:(S2++[O.pW []]).set S2.length (.pW<|[]++sA 0 (Q.drop 0))=S2++[.pW<|sA 0 Q]:=by
  rw[fH,dI,List.set_append_right _ _<|aL _,cT];rfl
 rw[sd]at e3;have ed:Jj (.pW []) sP [none,none,none] (Kz<|iE 1) (Ft 2<|v_ (je 0)<|v_ (je 1) Em) jt (jF<|iE 1) (je 2) jt (iE 2) (iE 0) [.ref n,.ref m,.ref c,.unb,.unb,.unb] S2=.ok (.ref S2.length) (S2++[.pW<|sA 0 Q]):=by
  unfold Jj;rw[Ng (S1:=S2) (n:=m) (by dsimp[i6,bools]) B.top,R.jZ,aH,B.len];show R.jD (qL sP (v9 m Q.length) _ _ _ _ _ _ _ S2.length Q.length 0 [.unb,.unb,.unb]<|S2++[.pW []]) _=_;rw[e3,R.jf]
 obtain⟨S3,C⟩:∃S3,S3=S2++[O.pW<|sA 0 Q]:=⟨_,rfl⟩;have Z:jL S2 S3:=by rw[C];kt_k
 have d3:rT S3 S2.length=some (sA 0 Q):=by rw[C];exact uI (by simp)
 have l3:S3.length=S2.length+1:=by rw[C];simp
 rw[<- C]at ed;have h3:=h2.nP Z;have U:=W.trans Z;have lc:∀r∈c::cs,r<S2.length:=h2.lt;have G:=Sy.Bb (λk=>Sy.wh Q (k:Int)) N pr.tp pr.tq pr.sh pr.pm (λk _=>by show Sy.wh Q ((k+1:Nat):Int)=_;congr 1);have Y:rT (S3++[O.lst []]) S2.length=some (sA 0 Q):=uI (by rw[aT ()];exact oZ d3);have ln:=U.len;unfold kc qb p_;dsimp[i6,bools,jI,Nat.reduceAdd,Nat.reduceSub,e1,bU,e2,ed];refine Jk (lo:=(N:Int)) (hi:=0) (S1:=S3++[.lst []]) (show uG _ _=_ from Bj (S1:=S3++[.lst []]) (S2:=S3++[.lst []]) (by dsimp[i6,bools,ML,Y,Jm,fl]) (by dsimp[i6,bools]) (by dsimp[i6,bools]) (lF () ())<|lF ⋯ ⋯)
  (λi τ S'=>∃(a5:A) (f:List<|ae) (d:ae),τ=[.ref n,.ref m,.ref c,.ref S2.length,.ref S3.length,a5]/\Tab S' c cs (Sy.pad f P.length)/\f.length<=P.length/\(∀j,((Sy.pad f P.length).getD j []).length<=40)/\Sy.Chain (λk=>Sy.wh Q (k:Int)) (N-i) f/\iG S' S3.length=some (d.map .int)/\d.length=i/\rT S' S2.length=some (sA 0 Q)/\jL S S'/\Sy.we (λk=>Sy.wh Q (k:Int)) (N-i) (Sy.pad f P.length)++d.reverse=CF P Q N)
  (λr=>∃(L:Nat) (S':iM),RS.end (RS.seq r _)=.ok (.ref L) S'/\iG S' L=some ((CF P Q N).map .int)/\jL S S'/\S.length<=L)
  ⟨_,P,[],rfl,?_,aL _,?_,G,iR,rfl,Y,U.lay,?_⟩ ?_ ?_
 ·rw[show Sy.pad P P.length=P by unfold Sy.pad;rw[cT,fC,bM]];exact h3.nP Kp.refl.lay
 ·rw[show Sy.pad P P.length=P by unfold Sy.pad;rw[cT,fC,bM]];exact z3
 ·rw[show Sy.pad P P.length=P by unfold Sy.pad;rw[cT,fC,bM]];exact bM _
 ·rintro i τ S4 hi ⟨a5,f,d,rfl,t4,p4,r4,F,q,J,d4,k4,g⟩;left;obtain⟨j,hj⟩:∃j,N-i=j+1:=⟨N-i-1,()⟩;have ji:N-(i+1)=j:=()
  rw[hj]at F g;generalize hk:j+1=k at F
  cases F with
  | nil=>lia
  | @step N' _ K ta co tk pl ch=>
  obtain rfl:N'=j:=()
  have lk:mj (sA 0 Q) ((N:Int)-(i:Int))=some (.int ((Sy.wh Q ((N'+1:Nat):Int):Nat):Int)):=by
   rw[show(N:Int)-(i:Int)=((N'+1:Nat):Int)by lia];have:((N'+1:Nat):Int)∈Q.flatten:=pr.pm.mem_iff.mpr<|kW.mpr ⟨(),()⟩;have:=Ge (t:=0)<|cN.mp this;rw[Nat.zero_add]at this;exact this
  obtain⟨S5,e5,t5,k5⟩:=Mi t4 (PV ta co p4) (by unfold Sy.pad;rw[aO,gh];lia) (λj=>by have:=r4 j;lia);have nl:S3.length∉cs:=λz=>by have:=lc _<|aN _ z;lia
  have nD:S2.length∉cs:=λz=>by have:=lc _<|aN _ z;lia
  have V:=k5.lst _ _ nl q;have ll:=qH V;have ep:Sy.lD (Sy.pad f P.length) (Sy.wh Q ((N'+1:Nat):Int))=((Sy.lD f<|Sy.wh Q ((N'+1:Nat):Int)).1,Sy.pad K P.length):=by
   rw[Sy.tZ co.1 p4,tk,Sy.z8 pl p4]
  unfold uK;dsimp[i6,bools,Pc,q,d4,lk,e5,V,aH,zc<|show d.length<16777216 by lia];refine⟨_,_,rfl,_,K,d++[(Sy.lD f<|Sy.wh Q ((N'+1:Nat):Int)).1],rfl,?_,(),λj=>?_,by rw[ji];exact ch,?_,by rw[aO,J];rfl,?_,(k4.old k5 λr hr _ z=>absurd (fr2 r<|aN _ z) (by have:=k1.len;lia)).set<|.inr (),?_⟩
  ·rw[ep]at t5;exact t5.kp (c:=(·=S3.length)) (Kp.refl.set<|.inl rfl) λr hr z=>by have:=lc r hr;lia
  ·have:=DJ (Sy.pad f P.length) (Sy.wh Q ((N'+1:Nat):Int)) j;rw[ep]at this;exact bX this (r4 j)
  ·rw[ep,oV ll,b5];rfl
  ·have:=k5.obj _ _ nD<|oZ d4;refine uI ?_;rw[bN ()];exact this
  ·rw[ji,List.reverse_append,<- g];show Sy.we _ N' _++([_]++d.reverse)=(Sy.we _ N' (Sy.lD (Sy.pad f P.length)<|Sy.wh Q ((N'+1:Nat):Int)).2++[(Sy.lD (Sy.pad f P.length)<|Sy.wh Q ((N'+1:Nat):Int)).1])++d.reverse;rw[ep,bZ]
 ·rintro τ S4 ⟨a5,f,d,rfl,t4,p4,r4,F,q,J,d4,k4,g⟩;rw[show((N:Int)-0).toNat=N by lia,cT]at g;dsimp[i6,bools,q,<- List.map_reverse];refine⟨_,_,rfl,?_,k4.lay,by have:=k4.len;lia⟩;rw[iR,<- g];rfl
end K59
namespace K59
open PySem L2 Am
def Lg{n k:Nat}(h:Tab S n rs T)(h':Tab S m qs U):sM S (k+3) (.ref n) (.ref m)=some (decide<|T=U):=by
 show(iG S n).bind (λxs=>(iG S m).bind λys=>sC (sM S<|k+2) xs ys)=_;rw[h.top,bw,h'.top,bw];exact zk h.rows h'.rows
def OJ{n:Nat}(h1:Tab S n rs T)(h2:Tab S m qs U)(h3:Tab S n' rs' T)(h4:Tab S m' qs' U):sM S 12 (.tup [.ref n,.ref m]) (.tup [.ref n',.ref m'])=some true:=by
 show sC (sM S 11) [.ref n,.ref m] [.ref n',.ref m']=_;have e1:sM S 11 (.ref n) (.ref n')=some true:=by rw[Lg (k:=8) h1 h3,aX rfl]
 have e2:sM S 11 (.ref m) (.ref m')=some true:=by rw[Lg (k:=8) h2 h4,aX rfl]
 show(sM S 11 (.ref n)<|.ref n').bind _=_;rw[e1,bw];show Option.map _ ((sM S 11 (.ref m)<|.ref m').bind _)=_;rw[e2];rfl
theorem zU(ro:Nat->Nat):∀(N:Nat) (P:List<|ae),(Sy.we ro N P).length=N
 | 0,_=>rfl
 | k+1,P=>by
  show(Sy.we ro k _++[_]).length=_;rw[aO,zU];rfl
theorem Ef:∀(T:List<|ae) (x:Int) (r:ae) (y:Int),r∈Tb.put T x->y∈r->y=x\/∃q∈T,y∈q
 | [],x,r,y,hr,hy=>by
  have:r=[x]:=aW.mp hr;rw[this]at hy;exact .inl<|aW.mp hy
 | q::T,x,r,y,hr,hy=>by
  by_cases c:Tb.fg q x=q.length
  ·rw[Tb.oW c]at hr
   rcases bh.mp hr with z|z
   ·rw[z]at hy
    rcases bT.mp hy with w|w
    ·exact .inr ⟨q,a_ ..,w⟩
    ·exact .inl<|aW.mp w
   ·exact .inr ⟨r,aN _ z,hy⟩
  ·rw[Tb.rD c]at hr;have lt:=Tb.yZ c
   rcases bh.mp hr with z|z
   ·rw[z]at hy
    rcases cX hy with w|w
    ·exact .inr ⟨q,a_ ..,w⟩
    ·exact .inl w
   ·rcases Ef T _ r y z hy with w|⟨p,hp,w⟩
    ·exact .inr ⟨q,a_ ..,by rw[w];exact bg<|Am.getD_at lt⟩
    ·exact .inr ⟨p,aN _ hp,w⟩
theorem xX{xs:ae}(hx:∀x∈xs,1<=x/\x<=1000000000):∀n,n<=xs.length->Gp (Tb.tabs xs n).1
 | 0,_=>λr d=>nomatch d
 | n+1,h=>λr d y hy=>by
  rcases Ef (Tb.tabs xs n).1 (xs.getD n 0) r y d hy with z|⟨q,f,z⟩
  ·rw[z];exact hx _ (bg<|Am.getD_at ())
  ·exact xX hx n () q f y z
theorem Cc:∀(Q:List<|ae) (i:Nat) (m:Int),(Tb.add Q i m).flatten.Perm (m::Q.flatten)
 | [],_,m=>fZ _
 | q::Q,0,m=>by
  show((q++[m])::Q).flatten.Perm (m::(q::Q).flatten);rw[bI,bI,bZ];exact eO
 | q::Q,i+1,m=>by
  show(q::Tb.add Q i m).flatten.Perm (m::(q::Q).flatten);rw[bI,bI];exact((Cc Q i m).append_left q).trans eO
theorem rX(xs:ae):∀n,(Tb.tabs xs n).2.flatten.Perm (jG 1<|(n:Int)+1)
 | 0=>fZ _
 | n+1=>by
  have e3:jG 1 (((n+1:Nat):Int)+1)=jG 1 ((n:Int)+1)++[(n:Int)+1]:=by
   unfold jG;rw[show(((n+1:Nat):Int)+1-1).toNat=n+1 by lia,show((n:Int)+1-1).toNat=n by lia,gF,b5];show _++[1+(n:Int)]=_;rw[Int.add_comm 1]
  rw[e3];exact((Cc _ _ _).trans<|(rX xs n).cons _).trans (gn (l₁:=[(n:Int)+1]))
def JB(P:List<|ae):Sy.pad P P.length=P:=by unfold Sy.pad;rw[cT,fC,bM]
def L3{xs:ae}(hl:xs.length<=40)(hx:∀x∈xs,1<=x/\x<=1000000000):Pr (Tb.tabs xs xs.length).1 (Tb.tabs xs xs.length).2 xs.length/\CF (Tb.tabs xs xs.length).1 (Tb.tabs xs xs.length).2 xs.length=xs:=by
 refine⟨⟨Sy.su xs<|aL _,Sy.rK xs _<|aL _,xX hx _<|aL _,(Tb.kZ xs _).symm,hl,rX xs _⟩,?_⟩;have:=Sy.A_ xs (λk=>Sy.wh (Tb.tabs xs xs.length).2 (k:Int)) xs.length (aL _) (Tb.tabs xs xs.length).1.length (λk d=>(Sy.z7 xs xs.length).2.2 k d)<|aL _;rw[JB,List.take_length]at this;exact this
def L4{P:List<|ae}{N:Nat}(pr:Pr P Q N):Tb.tabs (CF P Q N) (CF P Q N).length=(P,Q):=by
 have:=Sy.AM (λk=>Sy.wh Q (k:Int)) N (m:=P.length) pr.tp pr.tq pr.sh pr.pm (λk _=>rfl)<|aL _;rw[JB]at this;show Tb.tabs (Sy.we _ N P) (Sy.we _ N P).length=_;rw[zU];exact this.2
def Mf{c:Ex}{n:Nat}{xs:ad}(h:c τ S=.ok (.ref n) S1)(hl:iG S1 n=some xs):zj c τ S=.ok (jv n xs.length) S1:=by
 unfold zj;rw[h,R.jZ];show opt (iG S1 n) _=_;rw[hl,i8]
def Gk(S:iM):∃S',qX [.exn<|PySem.Str.ofString "NoTables",.str<|PySem.Str.ofString "tables"] S=.ok (.bl true) S'/\jL S S':=by
 obtain⟨S1,h1⟩:∃S1,S1=S++[O.lst [.bl false,.bl false,.bl false,.bl false]]:=⟨_,rfl⟩;obtain⟨S2,f⟩:∃S2,S2=S1++[O.lst [.bl true,.bl false,.bl false,.bl false]]:=⟨_,rfl⟩;obtain⟨S3,m⟩:∃S3,S3=S2++[O.lst [.bl false,.bl false,.bl false,.bl false,.bl true,.bl false,.bl false,.bl false]]:=⟨_,rfl⟩;obtain⟨ns,d⟩:∃ns:am,ns=[PySem.Str.ofString "word",PySem.Str.ofString "number",PySem.Str.ofString "pair",PySem.Str.ofString "many",PySem.Str.ofString "tables",PySem.Str.ofString "text",PySem.Str.ofString "row",PySem.Str.ofString "name"]:=⟨_,rfl⟩;obtain⟨S4,g⟩:∃S4,S4=S3++[O.lst<|ns.map A.str]:=⟨_,rfl⟩;have z:iG S2 S.length=some [.bl false,.bl false,.bl false,.bl false]:=by rw[f,h1];exact jj iR
 have C:iG S2 S1.length=some [.bl true,.bl false,.bl false,.bl false]:=by rw[f];exact iR
 have j:=vW z C ⋯;have a3:iG S4 S2.length=some [.bl false,.bl false,.bl false,.bl false,.bl true,.bl false,.bl false,.bl false]:=by rw[g,m];exact jj iR
 have q:iG S4 S3.length=some (ns.map A.str):=by rw[g];exact iR
 have hc:=uD (cap:=[some 1]) (src:=zj<|iE 3) (t:=jt) (e:=iK (pO false) (iE 0)<|iE 1) (τ:=[.exn<|PySem.Str.ofString "NoTables",.str<|PySem.Str.ofString "tables",.ref S2.length,.ref S3.length]) (Mf (by dsimp[i6,bools]) q) q (λ_=>true)
  (λx=>match x with | .str s=>.bl (s == PySem.Str.ofString "tables")|_=>.jC) (λx _=>rfl) (λx hx _=>by
   obtain⟨s,_,rfl⟩:=bA.mp hx;dsimp[i6,bools];rfl) (by rw[d];decide)
 have F:((ns.map A.str).filter λ_=>true).map (λx=>match x with | .str s=>A.bl (s == PySem.Str.ofString "tables")|_=>.jC)=[.bl false,.bl false,.bl false,.bl false,.bl true,.bl false,.bl false,.bl false]:=by
  rw[cP.mpr λ_ _=>rfl,bY,d];show[A.bl<|PySem.Str.ofString "word" == PySem.Str.ofString "tables",A.bl<|PySem.Str.ofString "number" == PySem.Str.ofString "tables",A.bl<|PySem.Str.ofString "pair" == PySem.Str.ofString "tables",A.bl<|PySem.Str.ofString "many" == PySem.Str.ofString "tables",A.bl<|PySem.Str.ofString "tables" == PySem.Str.ofString "tables",A.bl<|PySem.Str.ofString "text" == PySem.Str.ofString "tables",A.bl<|PySem.Str.ofString "row" == PySem.Str.ofString "tables",A.bl<|PySem.Str.ofString "name" == PySem.Str.ofString "tables"]=_;rw[show(PySem.Str.ofString "word" == PySem.Str.ofString "tables")=false by decide +kernel,show(PySem.Str.ofString "number" == PySem.Str.ofString "tables")=false by decide +kernel,show(PySem.Str.ofString "pair" == PySem.Str.ofString "tables")=false by decide +kernel,show(PySem.Str.ofString "many" == PySem.Str.ofString "tables")=false by decide +kernel,show(PySem.Str.ofString "tables" == PySem.Str.ofString "tables")=true by decide +kernel,show(PySem.Str.ofString "text" == PySem.Str.ofString "tables")=false by decide +kernel,show(PySem.Str.ofString "row" == PySem.Str.ofString "tables")=false by decide +kernel,show(PySem.Str.ofString "name" == PySem.Str.ofString "tables")=false by decide +kernel]
 rw[F]at hc;have B:=tV (S:=S4++[O.lst [.bl false,.bl false,.bl false,.bl false,.bl true,.bl false,.bl false,.bl false]]) (a:=.ref S2.length) (b:=.ref S4.length) (k:=true) (by
  show(iG _ _).bind _=_;rw[jj a3,bw,iR,bw];rfl)
 have j:jJ (.ref S.length) (.ref S1.length) S2=.ok (.ref S2.length) S3:=by rw[j,m];rfl
 have e4:newL [A.str<|PySem.Str.ofString "word",.str<|PySem.Str.ofString "number",.str<|PySem.Str.ofString "pair",.str<|PySem.Str.ofString "many",.str<|PySem.Str.ofString "tables",.str<|PySem.Str.ofString "text",.str<|PySem.Str.ofString "row",.str<|PySem.Str.ofString "name"] S3=.ok (.ref S3.length) S4:=by
  rw[CV,g,d];rfl
 refine⟨S4++[O.lst [.bl false,.bl false,.bl false,.bl false,.bl true,.bl false,.bl false,.bl false]],?_,?_⟩
 ·unfold qX yg xG;dsimp[i6,oR,bools,jI,Nat.reduceAdd,Nat.reduceSub,<- h1,<- f,j,e4,hc,B]
 ·rw[g,m,f,h1];exact Kp.refl.lay.lay.lay.lay.lay
abbrev Ob (S:iM)(x y:A):Prop:=∀f,jL S f->∃d,jm [x,y] f=.ok (.bl false) d/\jL f d
abbrev Bo (S:iM)(x:A):Prop:=∀f,jL S f->∃d,j9 [x] f=.ok (.bl false) d/\jL f d
def EI{x:A}(h:Bo S x)(ux:x.j5=false):Ob S x y:=λd k=>by
 obtain⟨S1,e1,k1⟩:=h d k;refine⟨S1,?_,k1⟩;have u:uV x d=.ok x d:=rG ux;unfold jm jU jW;dsimp[i6,oR,bools,jI,Nat.reduceAdd,Nat.reduceSub,u,e1,bQ]
def Nz{n:Nat}{P:List<|ae}{y:A}(h:Tab S n rs P)(l1:P.length<=1000)(r1:∀i,(P.getD i []).length<64)(hy:Bo S y)(uy:y.j5=false):Ob S (.ref n) y:=λd k=>by
 obtain⟨S1,e1,k1⟩:=wL (A5<|h.nP k) l1 r1;obtain⟨S2,e2,k2⟩:=hy S1<|k.trans k1;have u:uV y S1=.ok y S1:=rG uy;unfold jm jU jW
 cases c:nG P with
 | false=>
  rw[c]at e1;dsimp[i6,oR,bools,jI,Nat.reduceAdd,Nat.reduceSub,e1,bQ];exact⟨_,rfl,k1⟩
 | true=>
  rw[c]at e1;dsimp[i6,oR,bools,jI,Nat.reduceAdd,Nat.reduceSub,e1,bU,u,e2,bQ];exact⟨_,rfl,k1.trans k2⟩
def EZ{n:Nat}{P Q:List<|ae}(h:Tab S n rs P)(h':Tab S m qs Q)(l1:P.length<=1000)(l2:Q.length<=1000)(r1:∀i,(P.getD i []).length<64)(r2:∀i,(Q.getD i []).length<64)(fl:Q.flatten.length<64)(c:lE P Q=false):Ob S (.ref n) (.ref m):=λd k=>by
 have:=Ht (h.nP k) (h'.nP k) l1 l2 r1 r2 fl;rw[c]at this;exact this
def MM{x y:A}(h:Ob S x y)(ux:x.j5=false)(uy:y.j5=false)(k:jL S S'):∃S'',kc [x,y] S'=.ex (PySem.Str.ofString "NoTables") S''/\jL S' S'':=by
 obtain⟨S1,e1,k1⟩:=h S' k;have u:uV x S'=.ok x S':=rG ux;have v:uV y S'=.ok y S':=rG uy;refine⟨S1,?_,k1⟩;unfold kc qb p_;dsimp[i6,oR,bools,jI,Nat.reduceAdd,Nat.reduceSub,u,v,e1,bQ]
def sY{x y:A}(h:Ob S x y)(ux:x.j5=false)(uy:y.j5=false)(tx:kN S 8 x 8000000)(ty:kN S 8 y 8000000):∃S',jM [x,y] S=.ok (.bl true) S'/\jL S S':=by
 have k1:jL S (S++[O.lst [x,y]]):=Kp.refl.lay;have F:∀{S':iM},jL S S'->UK (S'++[O.lst [x,y]]) (.ref S'.length):=λ{S'} k=>by
  refine(kN.lst (n:=8) (c:=8000000) (iR (S:=S') (xs:=[x,y])) λz J=>?_).Vz (show(8000000+2) * 2+3<=16777216 by decide)
  rcases bh.mp J with e|e
  ·rw[e];exact(tx.kp k).kp Kp.refl.lay
  ·rw[aW.mp e];exact(ty.kp k).kp Kp.refl.lay
 obtain⟨d,dx,B,t⟩:=F (S':=S) Kp.refl;have r1:w9 (.ref S.length) (S++[O.lst [x,y]])=.ok (.str d.shown) (S++[O.lst [x,y]]):=by
  unfold w9;rw[dx,i8,kq ⟨B,t⟩]
 obtain⟨S2,e2,k2⟩:=MM h ux uy k1;obtain⟨S3,e3,k3⟩:=Gk S2;have j:=k2.trans k3;have g:mG (S3++[O.lst [x,y]]) 9 (.ref S3.length)=mG (S++[O.lst [x,y]]) 9 (.ref S.length):=by
  obtain⟨a,C,_,_⟩:=tx;obtain⟨b,G,_,_⟩:=ty;have q:∀{S':iM},jL S S'->mG (S'++[O.lst [x,y]]) 9 (.ref S'.length)=some (.list [a,b]):=λ{S'} k=>by
   show(iG (S'++[O.lst [x,y]]) S'.length).bind _=_;rw[iR,bw];show Option.map _ ((mG (S'++[O.lst [x,y]]) 8 x).bind λd=>Option.map (λds=>d::ds)<|(mG (S'++[O.lst [x,y]]) 8 y).bind λe=>Option.map (λes=>e::es)<|some [])=_;rw[nY (λm xs e=>(k.lay (o:=O.lst [x,y])).lst m xs (λz=>z) e) _ _ _ C,nY (λm xs e=>(k.lay (o:=O.lst [x,y])).lst m xs (λz=>z) e) _ _ _ G];rfl
  rw[q<|k1.trans j,q Kp.refl]
 have r2:w9 (.ref S3.length) (S3++[O.lst [x,y]])=.ok (.str d.shown) (S3++[O.lst [x,y]]):=by
  unfold w9;rw[g,dx,i8,kq ⟨B,t⟩]
 have f:pO false (.str d.shown) (.str d.shown) (S3++[O.lst [x,y]])=.ok (.bl<|d.shown == d.shown) (S3++[O.lst [x,y]]):=rfl;rw[cY]at f;have u:∀S:iM,uV x S=.ok x S:=λS=>rG ux;have v:∀S:iM,uV y S=.ok y S:=λS=>rG uy;unfold jM pR pQ;dsimp[i6,oR,bools,jI,Nat.reduceAdd,Nat.reduceSub,u,v,r1,e2,e3,r2,f];exact⟨_,rfl,(k1.trans j).lay⟩
end K59
namespace K59
open PySem L2 Am
def Q_{xs:ad}{x:A}(h:xs[xs.length-1]?=some x):ng xs (-1)=some x:=by
 have d:=(aJ.mp h).1;have e:wV xs.length (-1)=some (xs.length-1):=by
  unfold wV;rw[bu (),bf ()];congr 1
  lia
 unfold ng;rw[e,bw,h]
def Kl:mw []=false:=rfl
def G_{R:ae}{i j:Nat}{x y:Int}(hij:i<j)(hx:R[i]?=some x)(hy:R[j]?=some y)(h:y<x):mw R=false:=by
 unfold mw;have:¬R=sortI R:=λz=>by
  have p:=pV R;rw[<- z]at p;have:=Sy.nR p (c8 hij) hx hy
  lia
 rw[aY this,bO,bO]
structure Cop (S:iM)(m:Nat)(qs:ag)(T:List (ae)):Prop where
 tab:Tab S m qs T
 ta:Sy.lK T
 bd:Gp T
 ne:0<T.length
 l1:T.length<=60
 l2:∀r∈T,r.length<=60
section
variable {S:iM}{m:Nat}{qs:ag}{T:List (ae)}
def Cop.at(h:Cop S m qs T){j:Nat}(hj:j<T.length):qs[j]?=some (qs.getD j 0)/\ng (qs.map A.ref) (j:Int)=some (.ref<|qs.getD j 0)/\iG S (qs.getD j 0)=some ((T.getD j []).map .int)/\T.getD j []∈T/\0<(T.getD j []).length/\(T.getD j []).length<=60:=by
 have len:=h.tab.len;have e:qs[j]?=some (qs.getD j 0):=by rw[aG,aF ()];rfl
 have d:T.getD j []∈T:=by rw[aG,aF hj];exact cW hj
 refine⟨e,nJ (k:=j) rfl<|by rw[aQ,e];rfl,(h.tab.rows.get e).2,d,?_,h.l2 _ d⟩;exact Sy.oA h.ta _<|bA.mpr ⟨_,d,rfl⟩
def Cop.kp(h:Cop S m qs T){c:Nat->Prop}(k:Kp c S S')(hc:∀r∈m::qs,¬c r):Cop S' m qs T:=⟨h.tab.kp k hc,h.ta,h.bd,h.ne,h.l1,h.l2⟩
def Cop.last(h:Cop S m qs T):ng (qs.map A.ref) (-1)=some (.ref<|qs.getD (T.length-1) 0):=by
 have ne:=h.ne;refine Q_ ?_;rw[aH,h.tab.len,aQ,(h.at<|show T.length-1<T.length by lia).1];rfl
def Cop.len(h:Cop S m qs T):qs.length=T.length:=h.tab.len
end
def kY{x:Int}(h:1<=x/\x<=1000000000):x.natAbs<2 ^ 200:=()
section
variable {S:iM}{b m t:Nat}{qs:ag}{T:List (ae)}
def nV.app(h:nV S b){o:O}:nV (S++[o]) b:=h.kp (c:=λ_=>False) Kp.refl.lay λz=>z
def nV.A4{r:Nat}(h:nV S b)(hn:r≠b):nV (S.set r<|.lst xs) b:=by
 obtain⟨g,st,e,q⟩:=h;exact⟨g,st,by rw[kh hn];exact e,q⟩
def Cop.app(h:Cop S m qs T){o:O}:Cop (S++[o]) m qs T:=h.kp (c:=λ_=>False) Kp.refl.lay λ_ _ z=>z
def yc{xs:ad}{P:A->Prop}{t:Nat}(h:∀x∈xs,P x)(hy:P y):∀x∈xs.set t y,P x:=λx hx=>by
 rcases cX hx with z|z
 ·exact h x z
 ·rw[z];exact hy
def F2{xs:ad}{y:A}{t:Nat}(h:t<xs.length):y∈xs.set t y:=bg<|bK h
def OX{U R:ae}(hu:0<U.length)(h:¬R.getD 0 0<U.getD 0 0):oU U R=false:=by
 unfold oU;have:((List.range U.length).map λi=>decide<|R.getD i 0<U.getD i 0).all id=false:=d9.mpr λz=>by
  have:=cB.mp z _<|bA.mpr ⟨0,cZ.mpr hu,rfl⟩;dsimp[id,d_]at this;exact h this
 rw[this,bO]
end
end K59
namespace K59
open PySem L2 Am
structure Few (F N:Nat)(T:List (ae)):Prop where
 many:T.length=N
 row:∀i,(T.getD i []).length<=61
 bd:∀r∈T,∀x∈r,x.natAbs<2 ^ 200
 fl:T.flatten.length<=F
def getD_mem'{T:List<|ae}(h:i<T.length):T.getD i []∈T:=by
 rw[aG,aF h];exact cW h
def J0{T:List<|ae}{r:ae}(ht:t<T.length):(T.set t r).flatten.length+(T.getD t []).length=T.flatten.length+r.length:=by
 have e1:T.flatten=(T.take t).flatten++(T.getD t []++(T.drop<|t+1).flatten):=by
  rw[<- bI,<- l_ ht,<- di,dD]
 have e2:(T.set t r).flatten=(T.take t).flatten++(r++(T.drop<|t+1).flatten):=by
  rw[cJ,bf ht,di,bI]
 have f:=b_ List.length e1;have d:=b_ List.length e2;rw[aO,aO]at f d
 lia
def uL{N:Nat}{T:List<|ae}{r:ae}(h:Few F N T)(hi:i<T.length)(hr:r.length<=61)(hb:∀x∈r,x.natAbs<2 ^ 200)(hd:r.length<=(T.getD i []).length+d):Few (F+d) N (T.set i r):=by
 refine⟨by rw[aZ];exact h.many,λj=>?_,λq f=>?_,?_⟩
 ·rw[aG,eg];by_cases c:i=j
  ·rw[bf c,bf hi];exact hr
  ·rw[bu c,<- aG];exact h.row j
 ·rcases cX f with z|z
  ·exact h.bd q z
  ·rw[z];exact hb
 ·have:=J0 (r:=r) hi;have:=h.fl
  lia
def Uc{k:Nat}(h:k<l):seqIndex? (k:Int) l=some k:=by
 unfold seqIndex?;simp
 lia
theorem zC:∀(l:ae) (k:Nat),(l.map A.int).eraseIdx k=(l.eraseIdx k).map A.int
 | [],_=>rfl
 | _::_,0=>rfl
 | x::l,k+1=>b_ (A.int x::·)<|zC l k
def xN{n:Nat}{T:List<|ae}(hb:nV S b)(h:Cop S n rs T):∃m qs T' S',kM [.ref b,.ref n] S=.ok (.ref m) S'/\Tab S' m qs T'/\Few (T.flatten.length+1) T.length T'/\nV S' b/\Kp (·=b) S S':=by
 have bS:=hb.lt;have ne:=h.ne;have l1:=h.l1;obtain⟨qs,m,S1,e1,h1,k1,fr1⟩:=nW (cap:=[]) (τ:=[.ref b,.ref n,.unb,.unb,.unb,.unb,.unb,.unb,.unb]) (src:=jF<|iE 1) h.tab (jY (by dsimp[i6,bools]) h.tab.top) ();have len:=h1.len;have hn:b∉m::qs:=λz=>by have:=fr1 b z;lia
 have F:∀{X Y:iM},Kp (·=b) X Y->∀r∈m::qs,¬r=b:=λ_ r J z=>hn (by rw[<- z];exact J);have C1:Cop S1 m qs T:=⟨h1,h.ta,h.bd,ne,l1,h.l2⟩;obtain⟨t,S2,e2,t0,t1,hb2,k2⟩:=digit (m:=(T.length:Int)) (hb.kp k1 λz=>z) () ();obtain⟨t,rfl⟩:∃t':Nat,t=(t':Int):=⟨t.toNat,()⟩;have q:t<T.length:=()
 have C2:=C1.kp k2<|F k2;obtain⟨q1,q2,q3,q4,q5,q6⟩:=C2.at q;obtain⟨p,S3,e3,p0,p1,hb3,k3⟩:=digit (m:=((T.getD t []).length:Int)) hb2 () ();obtain⟨p,rfl⟩:∃p':Nat,p=(p':Int):=⟨p.toNat,()⟩;have hp:p<(T.getD t []).length:=()
 have C3:=C2.kp k3<|F k3;have ap:=nZ (r:=T.getD t []) (i:=(p:Int)) rfl hp;obtain⟨u,S4,e4,u0,u1,hb4,k4⟩:=digit (m:=(T.length:Int)) hb3 () ();obtain⟨u,rfl⟩:∃u':Nat,u=(u':Int):=⟨u.toNat,()⟩;have W:u<T.length:=()
 have C4:=C3.kp k4<|F k4;obtain⟨v1,v2,v3,v4,v5,v6⟩:=C4.at W;obtain⟨w,S5,e5,w0,w1,hb5,k5⟩:=digit (m:=((T.getD u []).length:Int)) hb4 () ();obtain⟨w,rfl⟩:∃w':Nat,w=(w':Int):=⟨w.toNat,()⟩;have hw:w<(T.getD u []).length:=()
 have aw:=nZ (r:=T.getD u []) (i:=(w:Int)) rfl hw;obtain⟨y,S6,e6,y0,y1,hb6,k6⟩:=digit (m:=5) hb5 ⋯ ⋯;have f:=(C4.kp k5<|F k5).kp k6<|F k6;have k06:Kp (·=b) S S6:=(((((Kp.of0 k1).trans k2).trans k3).trans k4).trans k5).trans k6;have few:Few T.flatten.length T.length T:=⟨rfl,λi=>by
  by_cases hi:i<T.length
  ·have:=(f.at hi).2.2.2.2.2;lia
  ·rw[aG,dB ()];exact cj _,λr J x hx=>kY<|h.bd r J x hx,aL _⟩
 have j:∀{r:ae},r.length<=61->(∀x∈r,x.natAbs<2 ^ 200)->r.length<=(T.getD t []).length+1->Few (T.flatten.length+1) T.length (T.set t r):=λa b c=>uL few q a b c;have Z:∀x∈T.getD t [],x.natAbs<2 ^ 200:=λx hx=>kY<|h.bd _ (f.at q).2.2.2.1 x hx;have Lb:=h.bd _ (f.at q).2.2.2.1 _<|bg<|Am.getD_at hp;have Vb:=h.bd _ (f.at W).2.2.2.1 _<|bg<|Am.getD_at hw;have sb:∀{r:ae} {k:Nat} {x:Int},(∀y∈r,y.natAbs<2 ^ 200)->x.natAbs<2 ^ 200->∀y∈r.set k x,y.natAbs<2 ^ 200:=λJ hx y hy=>by
  rcases cX hy with z|z
  ·exact J y z
  ·rw[z];exact hx
 have kk:∀{S'},Kp (λr=>r=b\/r∈m::qs) S6 S'->Kp (·=b) S S':=λk=>k06.old k λr J hrb z=>by
  rcases z with z|z
  ·exact hrb z
  ·have:=fr1 r z;lia
 have G:qs.getD t 0∈m::qs:=aN _<|bg q1;have vm:qs.getD u 0∈m::qs:=aN _<|bg v1;have nb:∀r∈m::qs,r≠b:=λr J z=>hn (by rw[<- z];exact J);have b6:=hb6.lt;have top:iG S3 m=some (qs.map .ref):=C3.tab.top;have r3:=(C3.at q).2.2.1;have N:wV (T.getD t []).length (p:Int)=some p:=qI rfl hp;have ixw:wV (T.getD u []).length (w:Int)=some w:=qI rfl hw;unfold kM pB pM;dsimp[i6,bools,jI,Nat.reduceAdd,Nat.reduceSub,e1,h1.top,aH,len,e2,C2.tab.top,q2,q3,e3,C3.tab.top,r3,ap,e4,C4.tab.top,v2,v3,e5,e6];generalize hL:(T.getD t []).getD p 0=L at *
 obtain⟨V,hV⟩:∃V,(T.getD u []).getD w 0=V:=⟨_,rfl⟩;rw[hV]at aw Vb;obtain⟨c1,c2,c3,c4,c5,c6⟩:=f.at q;obtain⟨o1,o2,o3,o4,o5,o6⟩:=f.at W;have n6:newL [.int<|L-1,.int<|L+1,.int V,.int 1000000000,.int 1000000001,.int 0] S6=.ok (.ref S6.length) (S6++[O.lst [.int<|L-1,.int<|L+1,.int V,.int 1000000000,.int 1000000001,.int 0]]):=jE (show 6<=16777216 by decide);obtain⟨d,S7,e7,d0,d1,hb7,k7⟩:=digit (m:=6) (hb6.app (o:=O.lst [.int<|L-1,.int<|L+1,.int V,.int 1000000000,.int 1000000001,.int 0])) ⋯ ⋯;have C7:=f.app.kp k7<|F k7;obtain⟨a1,a2,a3,_,_,_⟩:=C7.at q;have g7:iG S7 S6.length=some [.int<|L-1,.int<|L+1,.int V,.int 1000000000,.int 1000000001,.int 0]:=k7.lst _ _ () iR;obtain⟨x,hx,bx⟩:∃x:Int,ng ([.int<|L-1,.int<|L+1,.int V,.int 1000000000,.int 1000000001,.int 0]:ad) d=some (.int x)/\x.natAbs<2 ^ 200:=by
  rcases(by lia:d=0\/d=1\/d=2\/d=3\/d=4\/d=5)with z|z|z|z|z|z<;>subst z<;>exact⟨_,rfl,()⟩
 have t7:=C7.tab.set (ys:=(T.getD t []).set p x) a1;have f7:=j (r:=(T.getD t []).set p x) (by rw[aZ];lia) (sb Z bx) (by rw[aZ];lia);have s7:Kp (λr=>r=b\/r∈m::qs) S6 (S7.set (qs.getD t 0)<|.lst<|((T.getD t []).set p x).map .int):=(Kp.refl.lay.trans<|k7.mono λr _ z=>.inl z).set<|.inl<|.inr G;have b7:nV (S7.set (qs.getD t 0)<|.lst<|((T.getD t []).set p x).map .int) b:=hb7.A4 (nb _ G)
 rcases(by lia:y=0\/y=1\/y=2\/y=3\/y=4)with z|z|z|z|z<;>subst z
 ·refine⟨m,qs,_,_,?_,t7,f7,b7,kk s7⟩;dsimp[i6,bools,Int.reduceLT,ie,gP,Int.reduceBEq,Lm,Int.reduceAdd,f.tab.top,o2,o3,aw,n6,e7,g7,hx,C7.tab.top,a2,a3,aH,N,fu]
 ·refine⟨m,qs,_,_,?_,t7,f7,b7,kk s7⟩;dsimp[i6,bools,Int.reduceLT,ie,gP,Int.reduceBEq,Lm,Int.reduceAdd,f.tab.top,o2,o3,aw,n6,e7,g7,hx,C7.tab.top,a2,a3,aH,N,fu]
 ·have U:=f.tab.set (ys:=(T.getD t []).eraseIdx p) c1;have po:Dk (.ref<|qs.getD t 0) [.int (p:Int)] S6=.ok (.int L) (S6.set (qs.getD t 0)<|.lst<|((T.getD t []).eraseIdx p).map .int):=by
   show opt (iG S6<|qs.getD t 0) _=_;rw[c3,i8,kq<|show -(2 ^ 63:Int)<=(p:Int)/\(p:Int)<2 ^ 63 by lia,aH,Uc hp,i8,aQ,Am.getD_at hp,hL];show R.ok (A.int L) (S6.set _<|.lst<|((T.getD t []).map A.int).eraseIdx p)=_;rw[zC]
  refine⟨m,qs,_,_,?_,U,j (by have:=List.length_eraseIdx_le (T.getD t []) p;lia) (λx hx=>Z x<|List.mem_of_mem_eraseIdx hx) (by have:=List.length_eraseIdx_le (T.getD t []) p;lia),hb6.A4<|nb _ G,kk<|Kp.refl.set<|.inl<|.inr G⟩;dsimp[i6,bools,Int.reduceLT,ie,gP,Int.reduceBEq,f.tab.top,c2,c3,po]
 ·obtain⟨g,C,e8,g0,g1,hb8,k8⟩:=digit (m:=2) hb6 ⋯ ⋯;have C8:=f.kp k8<|F k8;obtain⟨_,j2,j3,_,_,_⟩:=C8.at W;have n3:newL [.int L,.int<|L+1,.int V] C=.ok (.ref C.length) (C++[O.lst [.int L,.int<|L+1,.int V]]):=jE (show 3<=16777216 by decide);obtain⟨i,S9,e9,i0,i1,hb9,k9⟩:=digit (m:=3) (hb8.app (o:=O.lst [.int L,.int<|L+1,.int V])) ⋯ ⋯;have C9:=C8.app.kp k9<|F k9;obtain⟨b1,b2,b3,_,_,_⟩:=C9.at q;have g9:iG S9 C.length=some [.int L,.int<|L+1,.int V]:=k9.lst _ _ (by have:=hb8.lt;lia) iR;obtain⟨P,hxx,bxx⟩:∃P:Int,ng ([.int L,.int<|L+1,.int V]:ad) i=some (.int P)/\P.natAbs<2 ^ 200:=by
   rcases(by lia:i=0\/i=1\/i=2)with z|z|z<;>subst z<;>exact⟨_,rfl,()⟩
  obtain⟨K,hg⟩:∃K:Nat,(p:Int)+g=(K:Int):=⟨((p:Int)+g).toNat,()⟩;have t9:=C9.tab.set (ys:=(T.getD t []).take K++P::(T.getD t []).drop K) b1;have ins:Ai (.ref<|qs.getD t 0) [.int (K:Int),.int P] S9=.ok .jC (S9.set (qs.getD t 0)<|.lst<|((T.getD t []).take K++P::(T.getD t []).drop K).map .int):=by
   show opt (iG S9<|qs.getD t 0) _=_;rw[b3,i8,kq ⟨(),(),by rw[aH];lia,by rw[aH,cO];lia⟩];simp
  refine⟨m,qs,_,_,?_,t9,j (by rw[aO,bB,cg,cA];lia) (λx hx=>by
   rcases bT.mp hx with z|z
   ·exact Z x (gB z)
   ·rcases bh.mp z with z|z
    ·rw[z];exact bxx
    ·exact Z x<|fj z)<|by rw[aO,bB,cg,cA];lia,hb9.A4<|nb _ G,kk<|((k8.mono λr _ z=>.inl z).trans<|Kp.refl.lay.trans<|k9.mono λr _ z=>.inl z).set<|.inl<|.inr G⟩
  dsimp[i6,bools,Int.reduceLT,ie,gP,Int.reduceBEq,f.tab.top,c2,c3,e8,hg,C8.tab.top,j2,j3,aw,n3,e9,g9,hxx,ins]
 ·have U:=f.tab.set (ys:=(T.getD t []).set p V) c1;obtain⟨C,B⟩:∃C,C=S6.set (qs.getD t 0) (.lst<|((T.getD t []).set p V).map .int):=⟨_,rfl⟩;rw[<- B]at U;have lt8:((T.set t<|(T.getD t []).set p V).getD u []).length=(T.getD u []).length:=by
   rw[aG,eg];by_cases c:t=u
   ·rw[bf c,bf q,<- c];show((T.getD t []).set p V).length=_;rw[aZ]
   ·rw[bu c,<- aG]
  have z3:=(U.rows.get v1).2;have t9:=U.set (ys:=((T.set t<|(T.getD t []).set p V).getD u []).set w L) v1;have f8:Few (T.flatten.length+0) T.length (T.set t<|(T.getD t []).set p V):=uL few q (by rw[aZ];lia) (sb Z ()) (by rw[aZ];lia);have lu:u<(T.set t<|(T.getD t []).set p V).length:=by rw[aZ];exact W
  have f9:Few (T.flatten.length+0+1) T.length ((T.set t<|(T.getD t []).set p V).set u<|((T.set t<|(T.getD t []).set p V).getD u []).set w L):=uL f8 lu (by rw[aZ];exact f8.row u) (sb (f8.bd _<|getD_mem' lu) ()) (by rw[aZ];lia);have ixw':wV ((T.set t<|(T.getD t []).set p V).getD u []).length (w:Int)=some w:=by rw[lt8];exact ixw
  have k68:Kp (λr=>r=b\/r∈m::qs) S6 C:=by rw[B];exact Kp.refl.set (.inl<|.inr G)
  have b8:nV C b:=by rw[B];exact hb6.A4 (nb _ G)
  refine⟨m,qs,_,_,?_,t9,f9,b8.A4<|nb _ vm,kk<|k68.set<|.inl<|.inr vm⟩;dsimp[i6,bools,Int.reduceLT,ie,gP,Int.reduceBEq,f.tab.top,c2,c3,o2,o3,aw,mK<|show([_,_]:ad).length<=16777216 by simp,kq<|show([_,_]:ad).length=2 from rfl,aH,N,<- fu,<- B,U.top,z3,ixw']
end K59
namespace K59
open PySem L2 Am
abbrev Im (Q:List<|ae):Bool:=nG Q && decide (sortI Q.flatten=jG 1 ((Q.flatten.length:Int)+1))
theorem BN:∀{qs:ag}{Q:List<|ae},Rows S qs Q->DG S (qs.map A.ref)=some (Q.map λr=>r.map A.int)
 | [],[],_=>rfl
 | q::qs,r::Q,h=>by
  show(iG S q).bind _=_;rw[h.1,bw,BN h.2];rfl
def KN(Q:List<|ae):(Q.map λr=>r.map A.int).flatten=Q.flatten.map A.int:=by
 rw[List.map_flatten]
def Kf{Q:List<|ae}(h:Tab S m qs Q)(l0:0<Q.length)(l2:Q.length<=1000)(r2:∀i,(Q.getD i []).length<64)(fl:Q.flatten.length<64):∃S',kI [.ref m] S=.ok (.bl<|Im Q) S'/\jL S S':=by
 obtain⟨S1,e1,k1⟩:=Bp (A5 h) l2 r2;obtain⟨S2,f⟩:∃S2,S2=S1++[O.lst []]:=⟨_,rfl⟩;have k2:jL S S2:=by rw[f];exact k1.lay
 have B:iG S2 S1.length=some []:=by rw[f];exact iR
 have k:=h.nP k2;obtain⟨S3,g⟩:∃S3,S3=S2++[O.lst<|Q.flatten.map A.int]:=⟨_,rfl⟩;have k3:jL S S3:=by rw[g];exact k2.lay
 have L:iG S3 S2.length=some (Q.flatten.map A.int):=by rw[g];exact iR
 have len:=k.len;have e3:ID (.ref m) (.ref S1.length) S2=.ok (.ref S2.length) S3:=by
  show opt (iG S2 m) _=_;rw[k.top,i8,B,i8,BN k.rows,i8,KN,kq ⟨rfl,by rw[aH];lia,by rw[aH,cO];lia⟩,g]
 obtain⟨S4,j⟩:∃S4,S4=S3++[O.lst<|(sortI Q.flatten).map A.int]:=⟨_,rfl⟩;have t:jL S S4:=by rw[j];exact k3.lay
 have K:iG S4 S3.length=some ((sortI Q.flatten).map A.int):=by rw[j];exact iR
 have e4:qt (.ref S2.length) S3=.ok (.ref S3.length) S4:=by
  show opt (iG S3 S2.length) _=_;rw[L,i8,ints_map,i8,kq fl,j]
 have z:=h.nP t;have q:=mQ (cap:=[]) (src:=jF<|iE 0) (τ:=[.ref m]) z (jY (by dsimp[i6,bools]) z.top) ();obtain⟨S5,d⟩:∃S5,S5=S4++[O.lst<|(Q.map λr=>(r.length:Int)).map .int]:=⟨_,rfl⟩;have k5:jL S S5:=by rw[d];exact t.lay
 have F:iG S5 S4.length=some ((Q.map λr=>(r.length:Int)).map .int):=by rw[d];exact iR
 rw[<- d]at q;have e5:BB (.ref S4.length) S5=.ok (.int (Q.flatten.length:Int)) S5:=by
  show opt (iG S5 S4.length) _=_;rw[F,i8,ints_map,i8,L7,uM]
 have J:mW (.rng 1<|(Q.flatten.length:Int)+1) S5=.ok (.ref S5.length) (S5++[O.lst<|(jG 1<|(Q.flatten.length:Int)+1).map .int]):=yP (BX (show(-1000000:Int)<=1 by decide) ⋯ (show -1000000<=(Q.flatten.length:Int)+1 by lia) () ());have C:iG (S5++[O.lst<|(jG 1<|(Q.flatten.length:Int)+1).map .int]) S3.length=some ((sortI Q.flatten).map .int):=jj (by rw[d];exact jj K);have G:=tV<|w_ (a:=S3.length) (b:=S5.length) C iR;unfold kI nE nF Im
 cases c:nG Q with
 | false=>
  rw[c]at e1;dsimp[i6,oR,bools,jI,Nat.reduceAdd,Nat.reduceSub,e1,bW];exact⟨_,rfl,k1⟩
 | true=>
  rw[c]at e1;dsimp[i6,oR,bools,jI,Nat.reduceAdd,Nat.reduceSub,e1,<- f,e3,e4,q,e5,J,G,cV];exact⟨_,rfl,k5.lay⟩
def ue{n:Nat}{T:List<|ae}(h:Tab S n rs T)(hl:T.length<=61)(hr:∀i,(T.getD i []).length<=61)(hb:∀r∈T,∀x∈r,x.natAbs<2 ^ 200):kN S 8 (.ref n) 8000000:=by
 refine(kN.lst (n:=7) (c:=120000) h.top λx hx=>?_).mono (by rw[aH,h.len];lia);obtain⟨r,f,rfl⟩:=bA.mp hx;obtain⟨i,hi,e⟩:=cH f;obtain⟨g,d⟩:=h.rows.get (i:=i) (r:=r) (by rw[aF hi,e]);have:=hr i;exact kN.row (n:=5) d ()<|hb _<|by rw[aG,aF g];exact cW g
def Lv{n G:Nat}{P Q:List<|ae}(h:Tab S n rs P)(h':Tab S m qs Q)(f:Few F P.length P)(f':Few G Q.length Q)(l1:P.length<=60)(l2:Q.length<=60)(l0:0<Q.length)(hG:G<=40):∃S',lA [.ref n,.ref m] S=.ok (.bl true) S'/\jL S S':=by
 have r1:∀i,(P.getD i []).length<64:=λi=>by have:=f.row i;lia
 have r2:∀i,(Q.getD i []).length<64:=λi=>by have:=f'.row i;lia
 have fl:Q.flatten.length<=40:=bX f'.fl hG;obtain⟨S1,e1,k1⟩:=Bp (A5 h) () r1;obtain⟨S2,e2,k2⟩:=Kf (h'.nP k1) l0 () r2 ();have ref:∀{S':iM},jL S S'->lE P Q=false->∃C,jM [.ref n,.ref m] S'=.ok (.bl true) C/\jL S' C:=λ{S'} k c=>
  sY (EZ (h.nP k) (h'.nP k) () () r1 r2 () c) rfl rfl (ue (h.nP k) () f.row f.bd) (ue (h'.nP k) () f'.row f'.bd)
 unfold lA qd qu
 cases c1:nG P with
 | false=>
  rw[c1]at e1;obtain⟨S3,e3,k3⟩:=ref k1 (by unfold lE;rw[c1,bW]);dsimp[i6,oR,bools,jI,Nat.reduceAdd,Nat.reduceSub,e1,bQ,e3];exact⟨_,rfl,k1.trans k3⟩
 | true=>
  rw[c1]at e1;have g:=k1.trans k2
  cases c2:Im Q with
  | false=>
   rw[c2]at e2;obtain⟨S3,e3,k3⟩:=ref g (by
    unfold lE;unfold Im at c2
    cases ct:nG Q with
    | false=>rw[bW,bO]
    | true=>
     rw[ct,cV]at c2;rw[c2,bO,bO,bO,bO])
   dsimp[i6,oR,bools,jI,Nat.reduceAdd,Nat.reduceSub,e1,e2,bQ,e3];exact⟨_,rfl,g.trans k3⟩
  | true=>
   rw[c2]at e2;have Z:=h.nP g;have W:=h'.nP g;have Y:=mQ (cap:=[]) (src:=jF<|iE 0) (τ:=[.ref n,.ref m,.bl true]) Z (jY (by dsimp[i6,bools]) Z.top) ();obtain⟨S3,q⟩:∃S3,S3=S2++[O.lst<|(P.map λr=>(r.length:Int)).map .int]:=⟨_,rfl⟩;have k3:jL S2 S3:=by rw[q];kt_k
   have x3:iG S3 S2.length=some ((P.map λr=>(r.length:Int)).map .int):=by rw[q];exact iR
   rw[<- q]at Y;have K:=W.nP k3;have V:=mQ (cap:=[]) (src:=jF<|iE 1) (τ:=[.ref n,.ref m,.bl true]) K (jY (by dsimp[i6,bools]) K.top) ();obtain⟨S4,t⟩:∃S4,S4=S3++[O.lst<|(Q.map λr=>(r.length:Int)).map .int]:=⟨_,rfl⟩;have k4:jL S3 S4:=by rw[t];kt_k
   have x4:iG S4 S3.length=some ((Q.map λr=>(r.length:Int)).map .int):=by rw[t];exact iR
   rw[<- t]at V;have U:=AH<|w_ (k4.lst _ _ (λz=>z) x3) x4;have d:=(g.trans k3).trans k4;by_cases c3:P.map List.length=Q.map List.length
   ·rw[aX<|um.mpr c3,bU]at U;have pt:lE P Q=true:=by
     unfold lE;unfold Im at c2;rw[bE]at c2;rw[c1,c2.1,aX c3,aX fl,c2.2];rfl
    have pr:=Jg pt;obtain⟨as,a,S5,e5,t5,k5,_⟩:=nW (cap:=[]) (τ:=[.ref n,.ref m,.bl true]) (src:=jF<|iE 0) (h.nP d) (jY (by dsimp[i6,bools]) (h.nP d).top) ();have N:=(h'.nP d).nP k5;obtain⟨bs,b,S6,e6,t6,k6,_⟩:=nW (cap:=[]) (τ:=[.ref n,.ref m,.bl true]) (src:=jF<|iE 1) N (jY (by dsimp[i6,bools]) N.top) ();obtain⟨L,S7,e7,g7,k7,_⟩:=xj (t5.nP k6) t6 pr;have rl:(CF P Q Q.flatten.length).length<=100:=by
     show(Sy.we _ Q.flatten.length P).length<=100;rw[zU];lia
    obtain⟨rs2,qs2,n2,m2,S8,e8,B,J,k8,_,_,_⟩:=w6 g7 rl;rw[L4 pr]at B J;have j:=(((k5.trans k6).trans k7).trans k8);have q8:pO false (.tup [.ref n2,.ref m2]) (.tup [.ref n,.ref m]) S8=.ok (.bl true) S8:=tV<|OJ B J ((h.nP d).nP j)<|(h'.nP d).nP j;dsimp[i6,oR,bools,jI,Nat.reduceAdd,Nat.reduceSub,e1,e2,bU,Y,V,U,e5,e6,e7,e8,mK<|show 2<=16777216 by decide,mK<|show([_,_]:ad).length<=16777216 by simp,q8];exact⟨_,rfl,d.trans j⟩
   ·rw[aY λz=>c3<|um.mp z,bQ]at U;obtain⟨S5,e5,k5⟩:=ref d (by
     unfold lE;rw[aY c3,bW,bO,bO])
    dsimp[i6,oR,bools,jI,Nat.reduceAdd,Nat.reduceSub,e1,e2,bU,Y,V,U,e5];exact⟨_,rfl,d.trans k5⟩
end K59
namespace K59
open PySem L2 Am
def F1{x:A}(h:QH x):Bo S x:=λd _=>⟨d,Qt h,Kp.refl⟩
def ze{n:Nat}{xs:ad}(h:iG S n=some xs)(hl:xs.length<=1000)(hb:∀x∈xs,∃b,pN S x b)(c:∃x∈xs,pN S x false):Bo S (.ref n):=λd k=>
 Mj (k.lst _ _ (λz=>z) h) hl (λx hx=>(hb x hx).imp λ_ q=>q.kp k) (c.imp λ_ q=>⟨q.1,q.2.kp k⟩)
def AK{n:Nat}{T:List<|ae}(h:Tw S n rs T)(hl:T.length<=1000)(hr:∀i,(T.getD i []).length<64)(c:nG T=false):Bo S (.ref n):=λd k=>by
 have:=wL (h.nP k) hl hr;rw[c]at this;exact this
abbrev uS (S:iM)(M:Nat)(ls:ag):Prop:=Bo S (.ref M)\/∃qs Q,Tab S M qs Q/\Q.length<=61/\(∀i,(Q.getD i []).length<64)/\Q.flatten.length<64/\∀P:List<|ae,P.map List.length=ls->lE P Q=false
def uS.bad{n:Nat}{P:List<|ae}(h:uS S M<|P.map List.length)(hp:Tab S n rs P)(l1:P.length<=1000)(r1:∀i,(P.getD i []).length<64):Ob S (.ref n) (.ref M):=by
 rcases h with h|⟨qs,Q,a,b,c,d,e⟩
 ·exact Nz hp l1 r1 h rfl
 ·exact EZ hp a l1 () r1 c d<|e P rfl
def xC{P Q:List<|ae}(h:¬P.map List.length=Q.map List.length):lE P Q=false:=by
 unfold lE;rw[aY h,bW,bO,bO]
def zE{P Q:List<|ae}(h:¬Q.flatten.Perm (jG 1<|(Q.flatten.length:Int)+1)):lE P Q=false:=by
 unfold lE;have:¬sortI Q.flatten=jG 1 ((Q.flatten.length:Int)+1):=λz=>h (by rw[<- z];exact(sortI_perm _).symm);rw[aY this,bO,bO,bO,bO]
def Cu{T:List<|ae}{p:Nat}(ht:t<T.length)(hp:p<(T.getD t []).length)(y:Int):∃W:ae,T.flatten.Perm ((T.getD t []).getD p 0::W)/\(T.set t<|(T.getD t []).set p y).flatten.Perm (y::W):=by
 have e1:T.flatten=(T.take t).flatten++(T.getD t []++(T.drop<|t+1).flatten):=by
  rw[<- bI,<- l_ ht,<- di,dD]
 have e2:∀r,(T.set t r).flatten=(T.take t).flatten++(r++(T.drop<|t+1).flatten):=λr=>by
  rw[cJ,bf ht,di,bI]
 generalize T.getD t []=R at *
 have r1:R=R.take p++R.getD p 0::R.drop (p+1):=by
  rw[aG,aF hp];show R=R.take p++R[p]::R.drop (p+1);rw[<- dz hp,dD]
 have r2:R.set p y=R.take p++y::R.drop (p+1):=by rw[cJ,bf hp]
 refine⟨(T.take t).flatten++(R.take p++R.drop (p+1))++(T.drop<|t+1).flatten,?_,?_⟩
 ·rw[e1]
  conv=>lhs;rw[r1]
  have:∀(A B C D:ae) (v:Int),(A++((B++v::C)++D)).Perm (v::(A++(B++C)++D)):=λA B C D v=>by
   have:A++((B++v::C)++D)=(A++B)++v::(C++D):=by simp
   rw[this];refine eO.trans<|List.Perm.of_eq ?_;simp
  exact this _ _ _ _ _
 ·rw[e2,r2];have:∀(A B C D:ae) (v:Int),(A++((B++v::C)++D)).Perm (v::(A++(B++C)++D)):=λA B C D v=>by
   have:A++((B++v::C)++D)=(A++B)++v::(C++D):=by simp
   rw[this];refine eO.trans<|List.Perm.of_eq ?_;simp
  exact this _ _ _ _ _
def vV{P Q:List<|ae}{p N:Nat}{y:Int}(ht:t<Q.length)(hp:p<(Q.getD t []).length)(pm:Q.flatten.Perm<|jG 1<|(N:Int)+1)(hy:y≠(Q.getD t []).getD p 0):lE P (Q.set t<|(Q.getD t []).set p y)=false:=by
 obtain⟨W,d,f⟩:=Cu ht hp y;refine zE λz=>?_;have B:=pm.length_eq;have k:=d.length_eq;have g:=f.length_eq;have m:(jG 1<|(N:Int)+1).length=N:=by rw[l9];lia
 rw[bB]at k g;have:(Q.set t<|(Q.getD t []).set p y).flatten.length=N:=()
 rw[this]at z;have q:=f.symm.trans<|z.trans<|pm.symm.trans d;have j:((Q.getD t []).getD p 0::W).Nodup:=(d.symm.trans pm).nodup_iff.mpr<|tH _ _;have hm:(Q.getD t []).getD p 0∈y::W:=q.mem_iff.mpr (a_ ..)
 rcases bh.mp hm with e|e
 ·exact hy e.symm
 ·exact(bJ.mp j).1 e
def L6{P Q:List<|ae}(h0:0<Q.flatten.length)(h:∀r∈Q,∀x∈r,2<=x):lE P Q=false:=zE λz=>by
 have:(1:Int)∈Q.flatten:=z.mem_iff.mpr<|kW.mpr ⟨(),()⟩;obtain⟨r,d,hx⟩:=cN.mp this;have:=h r d 1 hx
 lia
def comp_map{src:Ic}{S:iM}{n:Nat}{rs:ag}{T:List<|ae}{e:Ex}(f:Int->Int)(h:Tab S n rs T)(hs:src τ S=.ok (jv n (rs.map A.ref).length) S)(hl:T.length<=1000)(hr:∀i,(T.getD i []).length<=1000)(he:∀r∈T,∀x∈r,∀S',e [.int x] S'=.ok (.int<|f x) S') :
  ∃(qs:ag) (m:Nat) (S':iM),jb [none] src (je 0) jt (jb [none] (jF<|iE 0) (je 0) jt e) τ S=.ok (.ref m) S'/\Tab S' m qs (T.map λr=>r.map f)/\jL S S'/\∀r∈m::qs,S.length<=r:=by
 have q:=h.len;have N:∀j,(T.map λr=>r.map f).getD j []=(T.getD j []).map f:=λj=>by
  rw[aG,aQ,aG]
  cases T[j]?<;>rfl
 rw[aH]at hs;obtain⟨S',h1,P,K,G⟩:=Af (s:=jv n rs.length) (g:=je 0) (e:=jb [none] (jF<|iE 0) (je 0) jt e) (T:=λC=>∃y,C=[y])
  (λi S1=>jL S S1/\S1.length=S.length+i/\∀j,j<i->iG S1 (S.length+j)=some (((T.getD j []).map f).map .int)) (λi=>.ref<|rs.getD i 0) (λi=>.ref<|S.length+i)
  (λi S1 hi h9=>by
   obtain⟨k,_,_⟩:=h9;have hi:i<rs.length:=hi;show(iG S1 n).bind _=_;rw[k.lst n _ (λz=>z) h.top,bw,aQ,aF hi,aG,aF hi];rfl)
  (λS1 h9=>by
   obtain⟨k,_,_⟩:=h9;show(match iG S1 n with
    | some ys=>decide (ys.length<=rs.length)
    | none=>false)=true
   rw[k.lst n _ (λz=>z) h.top];simp)
  (λi C S1 hi ⟨y,hy⟩ ⟨k,d,J⟩=>by
   have hi:i<rs.length:=hi;subst hy;have e1:iG S1 (rs.getD i 0)=some ((T.getD i []).map .int):=k.lst _ _ (λz=>z) (h.rows.get<|by rw[aG,aF hi];rfl).2;have F:T.getD i []∈T:=getD_mem' ();have L:=uD (cap:=[]) (t:=jt) (e:=e) (τ:=[.ref<|rs.getD i 0]) (src:=jF<|iE 0) (S:=S1) (jY (by dsimp[i6,bools]) e1) e1 (λ_=>true) (λx=>match x with | .int v=>.int (f v)|_=>.jC)
    (λx hx=>by dsimp[i6,bools]) (λx hx _=>by
     obtain⟨v,hv,rfl⟩:=bA.mp hx;exact he _ F v hv S1) (by rw[aH];have:=hr i;lia)
   have O:(((T.getD i []).map A.int).filter λ_=>true).map (λx=>match x with | .int v=>A.int (f v)|_=>.jC)=((T.getD i []).map f).map .int:=by
    rw[cP.mpr λ_ _=>rfl,bY,bY];rfl
   rw[O]at L;refine⟨[.ref<|rs.getD i 0],S1,S1++[.lst<|((T.getD i []).map f).map .int],rfl,⟨_,rfl⟩,?_,k.lay,by rw[aO,d];rfl,λj B=>?_⟩
   ·rw[L,<- d]
   ·by_cases z:j<i
    ·exact jj (J j z)
    ·have:j=i:=()
     subst this;rw[<- d];exact iR)
  rs.length 0 [.unb] S rfl ⟨_,rfl⟩ ⟨Kp.refl,rfl,λj B=>absurd B<|cU _⟩
 have K:S'.length=S.length+rs.length:=K;have G:∀j,j<rs.length->iG S' (S.length+j)=some (((T.getD j []).map f).map .int):=G;refine⟨(List.range' 0 rs.length).map (S.length+·),S'.length,S'++[.lst<|((List.range' 0 rs.length).map (S.length+·)).map .ref],?_,⟨iR,Rows.mk (by simp[q]) λi hi=>?_,?_⟩,P.lay,λr hr=>?_⟩
 ·unfold jb at h1 ⊢;rw[hs,R.jZ];show R.jD (kg (jv n rs.length) (je 0) jt _ rs.length 0 [.unb] S) _=_;rw[h1,R.jf,jE<|by simp;lia,bY];rfl
 ·refine jj ?_;rw[aH]at hi;have:((List.range' 0 rs.length).map (S.length+·)).getD i 0=S.length+i:=by
   rw[aG,aQ,List.getElem?_range' ()];simp
  rw[this,N];exact G i ()
 ·rw[bJ];refine⟨λz=>?_,?_⟩
  ·obtain⟨j,B,e⟩:=bA.mp z;have:=List.mem_range'.mp B
   lia
  ·rw[gX,fX];exact(List.nodup_range' (step:=1)).imp λh z=>h ()
 ·rcases bh.mp hr with z|z
  ·rw[z];lia
  ·obtain⟨j,B,e⟩:=bA.mp z
   lia
end K59
namespace K59
open PySem L2 Am
theorem HZ:∀{Q:List<|ae}{r:ae},Q.flatten.Nodup->r∈Q->r.Nodup
 | q::Q,r,h,hr=>by
  rw[bI,dc]at h
  rcases bh.mp hr with z|z
  ·rw[z];exact h.1
  ·exact HZ h.2.1 z
section
variable {S:iM}{b m n t p N:Nat}{qs:ag}{Q:List (ae)}{a6:A}
abbrev Gq (b m n t p N:Nat)(qs:ag)(ls:ag)(a6:A)(S:iM)(c:Am.Sm):Prop:=∃M d,c [.ref b,.ref n,.ref m,.int (N:Int),.int (t:Int),.int (p:Int),a6] S=.nx [.ref b,.ref n,.ref M,.int (N:Int),.int (t:Int),.int (p:Int),a6] d/\uS d M ls/\kN d 8 (.ref M) 8000000/\nV d b/\Kp (λr=>r=b\/r∈m::qs) S d
def Cop.lR(h:Cop S m qs Q):∀i,(Q.getD i []).length<=60:=λi=>by
 by_cases hi:i<Q.length
 ·exact(h.at hi).2.2.2.2.2
 ·rw[aG,dB ()];exact cj _
def uc{S5:iM}(C5:Cop S5 m qs Q)(ht:t<Q.length)(hp:p<(Q.getD t []).length)(oy:l8 y=false)(py:∀S',Pl S' y)(sy:∀S' n,kN S' (n+1) y 1921):Bo (S5.set (qs.getD t 0)<|.lst<|((Q.getD t []).map A.int).set p y) (.ref m)/\kN (S5.set (qs.getD t 0)<|.lst<|((Q.getD t []).map A.int).set p y) 8 (.ref m) 8000000:=by
 obtain⟨r1,r2,r3,L,r5,N⟩:=C5.at ht;have F:qs.getD t 0∈qs:=bg r1;have nm:qs.getD t 0≠m:=λz=>(bJ.mp C5.tab.nd).1 (by rw[<- z];exact F);have G:qs.getD t 0<S5.length:=qH r3;have len:=C5.len;have l1:=C5.l1;obtain⟨X,q⟩:∃X,X=((Q.getD t []).map A.int).set p y:=⟨_,rfl⟩;obtain⟨S6,f⟩:∃S6,S6=S5.set (qs.getD t 0) (.lst X):=⟨_,rfl⟩;rw[<- q,<- f];have g:iG S6 m=some (qs.map A.ref):=by rw[f,kh nm];exact C5.tab.top
 have j:iG S6 (qs.getD t 0)=some X:=by rw[f];exact oV G
 have U:X.length<=60:=by rw[q,aZ,aH];exact N
 have J:y∈X:=by rw[q];exact F2 (by rw[aH];lia)
 have bad:pN S6 (.ref<|qs.getD t 0) false:=Jz j () (by rw[q];exact yc (P:=λx=>Pl S6 x) FF<|py _) (d9.mpr λz=>by
  have:=cB.mp z y J;rw[oy]at this;cases this)
 have MW:kN S6 7 (.ref<|qs.getD t 0) 120000:=(kN.lst (n:=6) (c:=1921) j (by
  rw[q];refine yc (P:=λx=>kN S6 6 x 1921) (λx hx=>?_)<|sy _ _;obtain⟨v,hv,rfl⟩:=bA.mp hx;exact kN.int<|kY<|C5.bd _ L v hv)).mono ()
 have old:∀x∈qs.map A.ref,(∃b,pN S6 x b)/\kN S6 7 x 120000:=λx hx=>by
  obtain⟨r,B,rfl⟩:=bA.mp hx;by_cases z:r=qs.getD t 0
  ·rw[z];exact⟨⟨_,bad⟩,MW⟩
  ·obtain⟨i,hi,e⟩:=cH B;obtain⟨K,k⟩:=C5.tab.rows.get (i:=i) (r:=r) (by rw[aF hi,e]);obtain⟨_,_,_,C,_,O⟩:=C5.at K;have d:iG S6 r=some ((Q.getD i []).map .int):=by rw[f,kh λw=>z w.symm];exact k
   exact⟨⟨_,q_ d ()⟩,kN.row (n:=5) d () λx hx=>kY<|C5.bd _ C x hx⟩
 exact⟨ze g (by rw[aH];lia) (λx hx=>(old x hx).1) ⟨_,bA.mpr ⟨_,F,rfl⟩,bad⟩,(kN.lst (n:=7) (c:=120000) g λx hx=>(old x hx).2).mono<|by rw[aH];lia⟩
def wI{Q':List<|ae}(h:Tab S6 M qs' Q')(hl:Q'.length<=60)(hr:∀i,(Q'.getD i []).length<=61)(hb:∀r∈Q',∀x∈r,x.natAbs<2 ^ 200)(fl:Q'.flatten.length<64){ls:ag}(c:∀P:List<|ae,P.map List.length=ls->lE P Q'=false):uS S6 M ls/\kN S6 8 (.ref M) 8000000:=
 ⟨.inr ⟨qs',Q',h,(),(λi=>by have:=hr i;lia),fl,c⟩,ue h () hr hb⟩
def RH(hb:nV S b)(h:Cop S m qs Q)(pm:Q.flatten.Perm<|jG 1<|(N:Int)+1)(hN:N<=40)(hn:b∉m::qs)(ht:t<Q.length)(hp:p<(Q.getD t []).length):Gq b m n t p N qs (Q.map List.length) a6 S (jn (iK j8 (jQ<|iD (eC<|.bl true)<|iD (eC<|.int 0)<|iD (eC .jC)<|iD (eC<|.str<|PySem.Str.ofString "1")<|iD (iK jJ (iE 3)<|eC<|.int 1)<|iD (Bx vq<|eC<|.int 1) iJ)<|eFn iP<|iD (iE 0)<|iD (eC<|.int 6) iJ)<|Cp (iK j8 (iE 2)<|iE 4)<|iE 5):=by
 have len:=h.len;have bS:=hb.lt;obtain⟨ys,f⟩:∃ys:ad,ys=[.bl true,.int 0,.jC,.str<|PySem.Str.ofString "1",.int<|(N:Int)+1,.int<|-1]:=⟨_,rfl⟩;have n6:newL [.bl true,.int 0,.jC,.str<|PySem.Str.ofString "1",.int<|(N:Int)+1,.int<|-1] S=.ok (.ref S.length) (S++[O.lst ys]):=by rw[f];exact jE (show 6<=16777216 by decide)
 have F:jL S (S++[O.lst ys]):=Kp.refl.lay;obtain⟨d,S4,e4,d0,d1,hb4,C⟩:=digit (m:=6) (hb.kp F λz=>z) ⋯ ⋯;have Y:iG S4 S.length=some ys:=C.lst _ _ () iR;have q:Cop S4 m qs Q:=(h.kp F λ_ _ z=>z).kp C λr B z=>hn (by rw[<- z];exact B);obtain⟨J,W,V,U,q5,q6⟩:=q.at ht;have K:qs.getD t 0∈m::qs:=aN _<|bg J;have ix:wV (Q.getD t []).length (p:Int)=some p:=qI rfl hp;have g:∀y,ng ys d=some y->(uS (S4.set (qs.getD t 0)<|.lst<|((Q.getD t []).map A.int).set p y) m (Q.map List.length)/\kN (S4.set (qs.getD t 0)<|.lst<|((Q.getD t []).map A.int).set p y) 8 (.ref m) 8000000)->Gq b m n t p N qs (Q.map List.length) a6 S (jn (iK j8 (jQ<|iD (eC<|.bl true)<|iD (eC<|.int 0)<|iD (eC .jC)<|iD (eC<|.str<|PySem.Str.ofString "1")<|iD (iK jJ (iE 3)<|eC<|.int 1)<|iD (Bx vq<|eC<|.int 1) iJ)<|eFn iP<|iD (iE 0)<|iD (eC<|.int 6) iJ)<|Cp (iK j8 (iE 2)<|iE 4)<|iE 5):=λy hy o=>by
  refine⟨m,_,?_,o.1,o.2,hb4.A4 λz=>hn<|by rw[<- z];exact K,((Kp.of0 F).trans<|C.mono λr _ z=>.inl z).set<|.inl<|.inr K⟩;dsimp[i6,bools,Int.reduceNeg,n6,e4,Y,hy,q.tab.top,W,V,aH,ix]
 rcases(by lia:d=0\/d=1\/d=2\/d=3\/d=4\/d=5)with z|z|z|z|z|z<;>subst z
 ·obtain⟨j,k⟩:=uc (y:=.bl true) q ht hp rfl (λ_=>trivial) λ_ _=>kN.bl;exact g _ (by rw[f];rfl) ⟨.inl j,k⟩
 ·obtain⟨j,k⟩:=uc (y:=.int 0) q ht hp rfl (λ_=>trivial) λ_ _=>kN.int ⋯;exact g _ (by rw[f];rfl) ⟨.inl j,k⟩
 ·obtain⟨j,k⟩:=uc (y:=.jC) q ht hp rfl (λ_=>trivial) λ_ _=>kN.jC;exact g _ (by rw[f];rfl) ⟨.inl j,k⟩
 ·obtain⟨j,k⟩:=uc (y:=.str<|PySem.Str.ofString "1") q ht hp rfl (λ_=>trivial) λ_ _=>kN.str ∅;exact g _ (by rw[f];rfl) ⟨.inl j,k⟩
 ·refine g (.int<|(N:Int)+1) (by rw[f];rfl) ?_;have L:=q.tab.set (ys:=(Q.getD t []).set p<|(N:Int)+1) J;rw[fu]at L;have vb:=kW.mp<|pm.mem_iff.mp<|cN.mpr ⟨_,U,bg<|Am.getD_at hp⟩;have G:Few (Q.flatten.length+0) Q.length (Q.set t<|(Q.getD t []).set p<|(N:Int)+1):=uL ⟨rfl,(λi=>by have:=h.lR i;lia),(λr B x hx=>kY<|h.bd r B x hx),aL _⟩ ht (by rw[aZ];lia) (λx hx=>by
   rcases cX hx with z|z
   ·exact kY (h.bd _ U x z)
   ·rw[z];lia)<|by rw[aZ];lia
  have Z:=pm.length_eq;rw[l9]at Z;exact wI L (by rw[aZ];exact h.l1) G.row G.bd (by have:=G.fl;lia) λP _=>vV ht hp pm ()
 ·obtain⟨j,k⟩:=uc (y:=.int<|-1) q ht hp rfl (λ_=>trivial) λ_ _=>kN.int ⋯;exact g _ (by rw[f];rfl) ⟨.inl j,k⟩
def Rz(hb:nV S b)(h:Cop S m qs Q)(pm:Q.flatten.Perm<|jG 1<|(N:Int)+1)(hN:N<=40)(h2:2<=N)(hn:b∉m::qs)(ht:t<Q.length)(hp:p<(Q.getD t []).length):Gq b m n t p N qs (Q.map List.length) a6 S (jn (iK jJ (eC<|.int 1)<|iK wu (iK j8 (iK j8 (iE 2)<|iE 4)<|iE 5)<|iE 3)<|Cp (iK j8 (iE 2)<|iE 4)<|iE 5):=by
 obtain⟨j,C,B,q,V,O⟩:=h.at ht;have g:qs.getD t 0∈m::qs:=aN _<|bg j;have L:wV (Q.getD t []).length (p:Int)=some p:=qI rfl hp;have f:=nZ (r:=Q.getD t []) (i:=(p:Int)) rfl hp;have vb:=kW.mp<|pm.mem_iff.mp<|cN.mpr ⟨_,q,bg<|Am.getD_at hp⟩;obtain⟨v,hv⟩:∃v,(Q.getD t []).getD p 0=v:=⟨_,rfl⟩;rw[hv]at f vb;have K:wu (.int v) (.int (N:Int)) S=.ok (.int<|v % (N:Int)) S:=zq ();have W:0<=v % (N:Int):=fL _ ();have U:v % (N:Int)<(N:Int):=eW _ ();have F:1+v % (N:Int)≠v:=λz=>by
  by_cases c:v=(N:Int)
  ·rw[c,Int.emod_self]at z;lia
  ·rw[Int.emod_eq_of_lt () ()]at z;lia
 have k:=h.tab.set (ys:=(Q.getD t []).set p<|1+v % (N:Int)) j;rw[fu]at k;have d:Few (Q.flatten.length+0) Q.length (Q.set t<|(Q.getD t []).set p<|1+v % (N:Int)):=uL ⟨rfl,(λi=>by have:=h.lR i;lia),(λr G x hx=>kY<|h.bd r G x hx),aL _⟩ ht (by rw[aZ];lia) (λx hx=>by
   rcases cX hx with z|z
   ·exact kY (h.bd _ q x z)
   ·rw[z];lia)<|by rw[aZ];lia
 have J:=pm.length_eq;rw[l9]at J;have o:=wI (ls:=Q.map List.length) k (by rw[aZ];exact h.l1) d.row d.bd (by have:=d.fl;lia) λP _=>vV ht hp pm (by rw[hv];exact F);refine⟨m,_,?_,o.1,o.2,hb.A4 λz=>hn<|by rw[<- z];exact g,Kp.refl.set<|.inl<|.inr g⟩;dsimp[i6,bools,h.tab.top,C,B,f,K,aH,L]
def QL(hb:nV S b)(h:Cop S m qs Q)(nd:Q.flatten.Nodup)(hn:b∉m::qs)(ht:t<Q.length)(h2:1<(Q.getD t []).length):Gq b m n t p N qs (Q.map List.length) a6 S (jn (Bx Dj<|iK j8 (iE 2)<|iE 4)<|Cp (iE 2)<|iE 4):=by
 obtain⟨q1,Y,W,U,q5,q6⟩:=h.at ht;have len:=h.len;have l1:=h.l1;have mm:=h.tab.lt m<|a_ ..;have ix:wV qs.length (t:Int)=some t:=qI rfl ();obtain⟨B,q⟩:∃B,B=S++[O.lst<|(Q.getD t []).reverse.map A.int]:=⟨_,rfl⟩;have V:jL S B:=by rw[q];kt_k
 have xB:iG B S.length=some ((Q.getD t []).reverse.map A.int):=by rw[q];exact iR
 have C:=h.kp V λ_ _ z=>z;have mS:m<B.length:=qH C.tab.top;obtain⟨S6,d⟩:∃S6,S6=B.set m (.lst<|(qs.map A.ref).set t<|.ref S.length):=⟨_,rfl⟩;have g:iG S6 m=some ((qs.map A.ref).set t<|.ref S.length):=by rw[d];exact oV mS
 have k:iG S6 S.length=some ((Q.getD t []).reverse.map A.int):=by rw[d,kh ()];exact xB
 have L:=Sy.uz h.ta _ U;have J:(Q.getD t []).Nodup:=HZ nd U;generalize Q.getD t []=R at *
 have lt:R[0]'()<R[R.length-1]'():=by
  have a:=Sy.nR L (i:=0) (j:=R.length-1) () (aF ())<|aF ();have:R[0]'()≠R[R.length-1]'():=λz=>by
   exact dX.mp J 0 (R.length-1) () () () z
  lia
 have bad:pN S6 (.ref S.length) false:=by
  have:=q_ k (by rw[eF];lia);rw[G_ (R:=R.reverse) (i:=0) (j:=R.length-1) (x:=R[R.length-1]'()) (y:=R[0]'()) () (by rw[List.getElem?_reverse (),Nat.sub_zero];exact aF _) (by rw[List.getElem?_reverse (),show R.length-1-(R.length-1)=0 by lia];exact aF _) lt]at this;exact this
 have old:∀x∈qs.map A.ref,(∃b,pN S6 x b)/\kN S6 7 x 120000:=λx hx=>by
  obtain⟨r,F,rfl⟩:=bA.mp hx;obtain⟨i,hi,e⟩:=cH F;obtain⟨Z,G⟩:=C.tab.rows.get (i:=i) (r:=r) (by rw[aF hi,e]);obtain⟨_,_,_,K,_,le⟩:=C.at Z;have f:iG S6 r=some ((Q.getD i []).map .int):=by rw[d,kh λz=>(bJ.mp C.tab.nd).1<|by rw[z];exact F];exact G
  exact⟨⟨_,q_ f ()⟩,kN.row (n:=5) f () λx hx=>kY<|C.bd _ K x hx⟩
 have all:=yc (t:=t) (P:=λx=>(∃b,pN S6 x b)/\kN S6 7 x 120000) old ⟨⟨_,bad⟩,kN.row (n:=5) k (by rw[eF];lia) λx hx=>kY<|h.bd _ U x<|List.mem_reverse.mp hx⟩;refine⟨m,S6,?_,.inl<|ze g (by rw[aZ,aH];lia) (λx hx=>(all x hx).1) ⟨_,F2<|by rw[aH];lia,bad⟩,(kN.lst (n:=7) (c:=120000) g λx hx=>(all x hx).2).mono<|by rw[aZ,aH];lia,by rw[d];exact(hb.kp V λz=>z).A4 λz=>hn<|by rw[<- z];exact a_ ..,?_⟩
 ·dsimp[i6,bools,h.tab.top,Y,W,<- List.map_reverse,<- q,C.tab.top,aH,ix,d]
 ·rw[d];exact(Kp.of0 V).set (.inl<|.inr<|a_ ..)
end
end K59
namespace K59
open PySem L2 Am
section
variable {S:iM}{b m n t p N:Nat}{qs:ag}{Q:List (ae)}{a6:A}
def t_{T:List<|ae}{f:Int->Int}:(T.map λr=>r.map f).flatten.length=T.flatten.length:=by
 rw[gJ,gJ,bY];congr 1;refine gI λr _=>?_;show(r.map f).length=r.length;rw[aH]
def EK{e:Ex}(f:Int->Int)(hb:nV S b)(h:Cop S m qs Q)(h0:0<Q.flatten.length)(fl:Q.flatten.length<64)(he:∀r∈Q,∀x∈r,∀S',e [.int x] S'=.ok (.int<|f x) S')(hf:∀r∈Q,∀x∈r,2<=f x/\(f x).natAbs<2 ^ 200):Gq b m n t p N qs (Q.map List.length) a6 S (jn (jb [none] (jF<|iE 2) (je 0) jt<|jb [none] (jF<|iE 0) (je 0) jt e)<|je 2):=by
 obtain⟨rs,M,S',e1,B,k1,_⟩:=comp_map (τ:=[.ref b,.ref n,.ref m,.int (N:Int),.int (t:Int),.int (p:Int),a6]) (src:=jF<|iE 2) f h.tab (jY (by dsimp[i6,bools]) h.tab.top) (by have:=h.l1;lia) (λi=>by have:=h.lR i;lia) he;have k:∀j,(Q.map λr=>r.map f).getD j []=(Q.getD j []).map f:=λj=>by
  rw[aG,aQ,aG]
  cases Q[j]?<;>rfl
 have o:=wI (ls:=Q.map List.length) B (by rw[aH];exact h.l1) (λi=>by rw[k,aH];have:=h.lR i;lia) (λr d x hx=>by
  obtain⟨q,g,rfl⟩:=bA.mp d;obtain⟨y,hy,rfl⟩:=bA.mp hx;exact(hf q g y hy).2) (by rw[t_];exact fl) λP _=>L6 (by rw[t_];exact h0) λr d x hx=>by
   obtain⟨q,g,rfl⟩:=bA.mp d;obtain⟨y,hy,rfl⟩:=bA.mp hx;exact(hf q g y hy).1
 refine⟨M,S',?_,o.1,o.2,hb.kp k1 λz=>z,Kp.of0 k1⟩;dsimp[i6,bools,e1]
def Rows.Sq{S:iM}:∀{rs:ag}{T:List<|ae},Rows S rs T->Rows S (rs.drop 1) (T.drop 1)
 | [],[],_=>trivial
 | _::_,_::_,h=>h.2
theorem Rows.init{S:iM}:∀{rs:ag}{T:List<|ae}{k:Nat},Rows S rs T->Rows S (rs.take k) (T.take k)
 | [],[],_,_=>by rw[take_nil,take_nil];trivial
 | _::_,_::_,0,_=>trivial
 | _::_,_::_,k+1,h=>⟨h.1,Rows.init h.2⟩
def NV(hb:nV S b)(h:Cop S m qs Q)(fl:Q.flatten.length<64):Gq b m n t p N qs (Q.map List.length) a6 S (jn (LS (iE 2) (sO<|eC<|.int 1) sN)<|je 2):=by
 have len:=h.len;have l1:=h.l1;have ne:=h.ne;have B:vf (qs.map A.ref) (some 1) none=(qs.drop 1).map A.ref:=by
  have:=yR (qs.map A.ref) 0 (by rw[aH];lia);rw[map_drop];exact this
 obtain⟨f,d⟩:∃f,f=S++[O.lst<|(qs.drop 1).map A.ref]:=⟨_,rfl⟩;have j:jL S f:=by rw[d];kt_k
 have k:iG f S.length=some ((qs.drop 1).map A.ref):=by rw[d];exact iR
 have h1:=h.tab.nP j;have tb:Tab f S.length (qs.drop 1) (Q.drop 1):=⟨k,Rows.Sq h1.rows,bJ.mpr ⟨λz=>by have:=h.tab.lt _<|aN _<|fj z;lia,(bJ.mp h1.nd).2.sublist<|List.drop_sublist _ _⟩⟩;have g:(Q.drop 1).flatten.length<64:=by
  have:Q.flatten.length=(Q.take 1).flatten.length+(Q.drop 1).flatten.length:=by rw[<- aO,<- di,dD]
  lia
 have o:=wI (ls:=Q.map List.length) tb (by rw[cA];lia) (λi=>by rw[aG,gZ,<- aG];have:=h.lR<|1+i;lia) (λr q x hx=>kY<|h.bd r (fj q) x hx) g λP hP=>xC λz=>by
  rw[hP]at z;have:=b_ List.length z;rw[aH,aH,cA]at this
  lia
 refine⟨S.length,f,?_,o.1,o.2,hb.kp j λz=>z,Kp.of0 j⟩;dsimp[i6,bools,h.tab.top,B,<- d]
end
def MR{n N:Nat}{Q:List<|ae}(hb:nV S b)(h:Cop S n rs Q)(pm:Q.flatten.Perm<|jG 1<|(N:Int)+1)(hN:N<=40)(h2:2<=N):∃M S',j7 [.ref b,.ref n] S=.ok (.ref M) S'/\uS S' M (Q.map List.length)/\kN S' 8 (.ref M) 8000000/\nV S' b/\Kp (·=b) S S':=by
 have bS:=hb.lt;have ne:=h.ne;have l1:=h.l1;have pl:=pm.length_eq;rw[l9]at pl;have K:Q.flatten.length=N:=()
 obtain⟨qs,m,S1,e1,h1,k1,q⟩:=nW (cap:=[]) (τ:=[.ref b,.ref n,.unb,.unb,.unb,.unb,.unb]) (src:=jF<|iE 1) h.tab (jY (by dsimp[i6,bools]) h.tab.top) ();have len:=h1.len;have hn:b∉m::qs:=λz=>by have:=q b z;lia
 have U:=mQ (cap:=[]) (src:=jF<|iE 2) (τ:=[.ref b,.ref n,.ref m,.unb,.unb,.unb,.unb]) h1 (jY (by dsimp[i6,bools]) h1.top) ();obtain⟨S2,j⟩:∃S2,S2=S1++[O.lst<|(Q.map λr=>(r.length:Int)).map .int]:=⟨_,rfl⟩;have k2:jL S1 S2:=by rw[j];kt_k
 have x2:iG S2 S1.length=some ((Q.map λr=>(r.length:Int)).map .int):=by rw[j];exact iR
 rw[<- j]at U;have e2:BB (.ref S1.length) S2=.ok (.int (N:Int)) S2:=by
  show opt (iG S2 S1.length) _=_;rw[x2,i8,ints_map,i8,L7,<- uM,K]
 have P:Cop S2 m qs Q:=⟨h1.nP k2,h.ta,h.bd,ne,l1,h.l2⟩;obtain⟨t,S3,e3,t0,t1,J,k3⟩:=digit (m:=(Q.length:Int)) ((hb.kp k1 λz=>z).kp k2 λz=>z) () ();obtain⟨t,rfl⟩:∃Y:Nat,t=(Y:Int):=⟨t.toNat,()⟩;have B:t<Q.length:=()
 have G:=P.kp k3 λr f z=>hn (by rw[<- z];exact f);obtain⟨q1,Z,W,q4,q5,q6⟩:=G.at B;obtain⟨p,S4,e4,p0,p1,C,V⟩:=digit (m:=((Q.getD t []).length:Int)) J () ();obtain⟨p,rfl⟩:∃p':Nat,p=(p':Int):=⟨p.toNat,()⟩;have hp:p<(Q.getD t []).length:=()
 obtain⟨w,S5,e5,w0,w1,d,k5⟩:=digit (m:=6) C ⋯ ⋯;have g:=(G.kp V λr f z=>hn<|by rw[<- z];exact f).kp k5 λr f z=>hn (by rw[<- z];exact f);have L:Kp (·=b) S S5:=((((Kp.of0 k1).trans<|Kp.of0 k2).trans k3).trans V).trans k5;have kk:∀{S'},Kp (λr=>r=b\/r∈m::qs) S5 S'->Kp (·=b) S S':=λk=>L.old k λr f F z=>by
  rcases z with z|z
  ·exact F z
  ·have:=q r z;lia
 obtain⟨c1,c2,c3,c4,c5,c6⟩:=g.at B;have bq:∀r∈Q,∀x∈r,1<=x/\x<=40:=λr f x hx=>by
  have:=kW.mp (pm.mem_iff.mp<|cN.mpr ⟨r,f,hx⟩)
  lia
 unfold j7 mH mJ;dsimp[i6,bools,jI,Nat.reduceAdd,Nat.reduceSub,e1,U,e2,P.tab.top,aH,len,e3,G.tab.top,Z,W,e4,e5]
 rcases(by lia:w=0\/w=1\/w=2\/w=3\/w=4\/w=5)with z|z|z|z|z|z<;>subst z
 ·obtain⟨M,S6,e6,o6,t6,hb6,k6⟩:=RH (n:=n) (t:=t) (p:=p) (a6:=.int 0) d g pm hN hn B hp;kcf_m
 ·obtain⟨M,S6,e6,o6,t6,hb6,k6⟩:=Rz (n:=n) (t:=t) (p:=p) (a6:=.int 1) d g pm hN h2 hn B hp;kcf_m
 ·by_cases c:1<(Q.getD t []).length
  ·obtain⟨M,S6,e6,o6,t6,hb6,k6⟩:=QL (n:=n) (t:=t) (p:=p) (N:=N) (a6:=.int 2) d g (pm.nodup_iff.mpr<|tH _ _) hn B c;exact⟨M,S6,by dsimp[i6,bools,Int.reduceBEq,g.tab.top,c2,c3,aH,aX<|show(1:Int)<((Q.getD t []).length:Int)by lia,↓e6],o6,t6,hb6,kk k6⟩
  ·obtain⟨M,S6,e6,o6,t6,hb6,k6⟩:=NV (n:=n) (t:=t) (p:=p) (N:=N) (a6:=.int 2) d g ();exact⟨M,S6,by dsimp[i6,bools,Int.reduceBEq,g.tab.top,c2,c3,aH,aY<|show ¬(1:Int)<((Q.getD t []).length:Int)by lia,↓e6],o6,t6,hb6,kk k6⟩
 ·obtain⟨M,S6,e6,o6,t6,hb6,k6⟩:=EK (n:=n) (t:=t) (p:=p) (N:=N) (a6:=.int 3) (e:=iK jJ (iE 0)<|eC<|.int 1) (λx=>x+1) d g () () (λr f x hx S'=>by dsimp[i6,bools]) (λr f x hx=>by have:=bq r f x hx;lia);kcf_m
 ·obtain⟨M,S6,e6,o6,t6,hb6,k6⟩:=EK (n:=n) (t:=t) (p:=p) (N:=N) (a6:=.int 4) (e:=iK yq (eC<|.int 2)<|iE 0) (λx=>2 * x) d g () () (λr f x hx S'=>by
   have:=bq r f x hx;have ml:yq (.int 2) (.int x) S'=.ok (.int<|2 * x) S':=Ga () ();dsimp[i6,bools,ml]) (λr f x hx=>by have:=bq r f x hx;lia)
  kcf_m
 ·obtain⟨M,S6,e6,o6,t6,hb6,k6⟩:=NV (n:=n) (t:=t) (p:=p) (N:=N) (a6:=.int 5) d g ();kcf_m
end K59
namespace K59
open PySem L2 Am
def MF(n d:Nat):HT.lW n d (some<|-1)=n-1:=by
 unfold HT.lW;simp
 lia
def Ly(xs:ad)(k:Nat)(hk:xs.length=k)(h:1<=k):vf xs none (some<|-1)=xs.take (k-1):=by
 unfold vf;rw[MF,HT.Bw,hk,dI,Nat.sub_zero]
section
variable {S:iM}{b m n N:Nat}{rs qs:ag}{P Q:List (ae)}{a3:A}
abbrev CS (b m n:Nat)(a3:A)(S:iM)(e1 e2:Ex):Prop:=∃x y d,(tX<|iD e1<|iD e2 iJ) [.ref b,.ref n,.ref m,a3] S=.ok (.tup [x,y]) d/\x.j5=false/\y.j5=false/\Ob d x y/\kN d 8 x 8000000/\kN d 8 y 8000000/\nV d b/\Kp (·=b) S d
def Cop.MW(h:Cop S m qs Q):kN S 8 (.ref m) 8000000:=ue h.tab (by have:=h.l1;lia) (λi=>by have:=h.lR i;lia) λr d x hx=>kY<|h.bd r d x hx
def Cop.Rx(h:Cop S m qs Q){x:A}(hx:x∈qs.map A.ref):(∃b,pN S x b)/\kN S 7 x 120000:=by
 obtain⟨r,f,rfl⟩:=bA.mp hx;obtain⟨i,hi,e⟩:=cH f;obtain⟨j,d⟩:=h.tab.rows.get (i:=i) (r:=r) (by rw[aF hi,e]);obtain⟨_,_,_,g,_,k⟩:=h.at j;exact⟨⟨_,q_ d ()⟩,kN.row (n:=5) d () λx hx=>kY<|h.bd _ g x hx⟩
def uJ(h:Cop S m qs Q){r:Nat}{R:ae}(top:iG S M=some (qs.map .ref++[.ref r]))(hr:iG S r=some (R.map .int))(hl:R.length<=60)(hb:∀x∈R,x.natAbs<2 ^ 200):kN S 8 (.ref M) 8000000/\((oU R (Q.getD (Q.length-1) [])=false\/mw R=false)->Bo S (.ref M)):=by
 have ne:=h.ne;have l1:=h.l1;have len:=h.len;refine⟨(kN.lst (n:=7) (c:=120000) top λx hx=>?_).mono<|by simp;lia,λc=>?_⟩
 ·rcases bT.mp hx with z|z
  ·exact(h.Rx z).2
  ·rw[aW.mp z];exact kN.row (n:=5) hr () hb
 ·have g:Tw S M (qs++[r]) (Q++[R]):=⟨by rw[top,b5];rfl,Rows.app h.tab.rows ⟨hr,trivial⟩⟩;have d:(Q++[R]).getD Q.length []=R:=by rw[aG];simp
  have g0:(Q++[R]).getD (Q.length-1) []=Q.getD (Q.length-1) []:=by rw[aG,aT (),<- aG]
  refine AK g (by rw[aO];show Q.length+1<=1000;lia) (λi=>?_) ?_
  ·by_cases hi:i<Q.length
   ·rw[aG,aT hi,<- aG];have:=h.lR i;lia
   ·by_cases f:i=Q.length
    ·rw[f,d];lia
    ·rw[aG,dB<|by rw[aO];show Q.length+1<=i;lia];show 0<64;decide
  ·rcases c with c|c
   ·refine Fq (i:=Q.length-1) (by rw[aO];show Q.length-1<Q.length+1-1;lia) ?_;rw[show Q.length-1+1=Q.length by lia,d,g0];exact c
   ·refine AA (i:=Q.length) (by rw[aO];show Q.length<Q.length+1;lia) ?_;rw[d];exact c
def Rp(hb:nV S b)(hn:b∉n::rs)(h:Cop S n rs P):∃x S',(iK j8 (jQ<|iD (eC .jC)<|iD (eC<|.int 7)<|iD (eC<|.str<|PySem.Str.ofString "x")<|iD (iX (f1 pJ)<|iD (eC<|.ref n) iJ)<|iD (eC<|.bl true) iJ)<|eFn iP<|iD (eC<|.ref b)<|iD (eC<|.int 5) iJ) [] S=.ok x S'/\QH x/\kN S' 8 x 8000000/\nV S' b/\Kp (·=b) S S':=by
 obtain⟨ys,f⟩:∃ys:ad,ys=[.jC,.int 7,.str<|PySem.Str.ofString "x",.tup<|rs.map .ref,.bl true]:=⟨_,rfl⟩;have C:newL [.jC,.int 7,.str<|PySem.Str.ofString "x",.tup<|rs.map .ref,.bl true] S=.ok (.ref S.length) (S++[O.lst ys]):=by rw[f];exact jE (show 5<=16777216 by decide)
 have k:jL S (S++[O.lst ys]):=Kp.refl.lay;obtain⟨d,S4,e4,F,G,g,j⟩:=digit (m:=5) (hb.kp k λz=>z) ⋯ ⋯;have q:iG S4 S.length=some ys:=j.lst _ _ (by have:=hb.lt;lia) iR;have C4:Cop S4 n rs P:=(h.kp k λ_ _ z=>z).kp j λr t z=>hn (by rw[<- z];exact t);obtain⟨x,hx,ox,B⟩:∃x,ng ys d=some x/\QH x/\kN S4 8 x 8000000:=by
  rw[f]
  rcases(by lia:d=0\/d=1\/d=2\/d=3\/d=4)with z|z|z|z|z<;>subst z
  ·exact⟨_,rfl,trivial,kN.jC.mono ⋯⟩
  ·exact⟨_,rfl,trivial,(kN.int ⋯).mono ⋯⟩
  ·exact⟨_,rfl,trivial,(kN.str ∅).mono ⋯⟩
  ·exact⟨_,rfl,trivial,(kN.tup (n:=7) λy hy=>(C4.Rx hy).2).mono (by have:=h.len;have:=h.l1;rw[aH];lia)⟩
  ·exact⟨_,rfl,trivial,kN.bl.mono ⋯⟩
 refine⟨x,S4,?_,ox,B,g,(Kp.of0 k).trans j⟩;dsimp[i6,bools,h.tab.top,C,e4,q,hx]
def QH.nu{x:A}(h:QH x):x.j5=false:=by cases x<;>first|rfl|exact h.elim
def Ua(hb:nV S b)(h:Cop S n rs P)(h':Cop S m qs Q)(hn:b∉n::rs)(hm:b∉m::qs):CS b m n a3 S (iK j8 (jQ<|iD (eC .jC)<|iD (eC<|.int 7)<|iD (eC<|.str<|PySem.Str.ofString "x")<|iD (iX (f1 pJ)<|iD (iE 1) iJ)<|iD (eC<|.bl true) iJ)<|eFn iP<|iD (iE 0)<|iD (eC<|.int 5) iJ) (iE 2):=by
 obtain⟨x,S4,e4,d,k,f,g⟩:=Rp hb hn h;have u:uV x S4=.ok x S4:=rG d.nu;have C4:=h'.kp g λr j z=>hm (by rw[<- z];exact j);have e5:(iK j8 (jQ<|iD (eC .jC)<|iD (eC<|.int 7)<|iD (eC<|.str<|PySem.Str.ofString "x")<|iD (iX (f1 pJ)<|iD (iE 1) iJ)<|iD (eC<|.bl true) iJ)<|eFn iP<|iD (iE 0)<|iD (eC<|.int 5) iJ) [.ref b,.ref n,.ref m,a3] S=.ok x S4:=e4;refine⟨x,.ref m,S4,?_,d.nu,rfl,EI (F1 d) d.nu,k,C4.MW,f,g⟩;dsimp[i6,bools,↓e5,mK<|show([_,_]:ad).length<=16777216 by simp]
def Tn(hb:nV S b)(h:Cop S n rs P)(h':Cop S m qs Q)(hn:b∉n::rs)(hm:b∉m::qs):CS b m n a3 S (iE 1) (iK j8 (jQ<|iD (eC .jC)<|iD (eC<|.int 7)<|iD (eC<|.str<|PySem.Str.ofString "x")<|iD (iX (f1 pJ)<|iD (iE 2) iJ)<|iD (eC<|.bl true) iJ)<|eFn iP<|iD (iE 0)<|iD (eC<|.int 5) iJ):=by
 obtain⟨x,S4,e4,f,k,d,g⟩:=Rp hb hm h';have C4:=h.kp g λr j z=>hn (by rw[<- z];exact j);have e5:(iK j8 (jQ<|iD (eC .jC)<|iD (eC<|.int 7)<|iD (eC<|.str<|PySem.Str.ofString "x")<|iD (iX (f1 pJ)<|iD (iE 2) iJ)<|iD (eC<|.bl true) iJ)<|eFn iP<|iD (iE 0)<|iD (eC<|.int 5) iJ) [.ref b,.ref n,.ref m,a3] S=.ok x S4:=e4;refine⟨.ref n,x,S4,?_,rfl,f.nu,Nz C4.tab (by have:=h.l1;lia) (λi=>by have:=h.lR i;lia) (F1 f) f.nu,C4.MW,k,d,g⟩;dsimp[i6,bools,↓e5,mK<|show([_,_]:ad).length<=16777216 by simp]
def TY(hb:nV S b)(h:Cop S n rs P)(h':Cop S m qs Q):CS b m n a3 S (iK jJ (iE 1)<|jQ<|iD (jQ iJ) iJ) (iK jJ (iE 2)<|jQ<|iD (jQ iJ) iJ):=by
 have len:=h.len;have len':=h'.len;have l1:=h.l1;have l1':=h'.l1;obtain⟨k,J⟩:∃k,k=S++[O.lst<|([]:ae).map A.int]:=⟨_,rfl⟩;have L:jL S k:=by rw[J];kt_k
 have xB1:iG k S.length=some (([]:ae).map A.int):=by rw[J];exact iR
 have lB1:k.length=S.length+1:=by rw[J];simp
 obtain⟨j,G⟩:∃j,j=k++[O.lst [A.ref S.length]]:=⟨_,rfl⟩;have K:jL k j:=by rw[G];kt_k
 have xB2:iG j k.length=some [A.ref S.length]:=by rw[G];exact iR
 have lB2:j.length=k.length+1:=by rw[G];simp
 obtain⟨d,B⟩:∃d,d=j++[O.lst<|rs.map A.ref++[A.ref S.length]]:=⟨_,rfl⟩;have W:jL j d:=by rw[B];kt_k
 have xB3:iG d j.length=some (rs.map A.ref++[A.ref S.length]):=by rw[B];exact iR
 have lB3:d.length=j.length+1:=by rw[B];simp
 obtain⟨q,F⟩:∃q,q=d++[O.lst<|([]:ae).map A.int]:=⟨_,rfl⟩;have N:jL d q:=by rw[F];kt_k
 have xB4:iG q d.length=some (([]:ae).map A.int):=by rw[F];exact iR
 have lB4:q.length=d.length+1:=by rw[F];simp
 obtain⟨g,t⟩:∃g,g=q++[O.lst [A.ref d.length]]:=⟨_,rfl⟩;have V:jL q g:=by rw[t];kt_k
 have xB5:iG g q.length=some [A.ref d.length]:=by rw[t];exact iR
 have lB5:g.length=q.length+1:=by rw[t];simp
 obtain⟨f,C⟩:∃f,f=g++[O.lst<|qs.map A.ref++[A.ref d.length]]:=⟨_,rfl⟩;have kB6:jL g f:=by rw[C];kt_k
 have xB6:iG f g.length=some (qs.map A.ref++[A.ref d.length]):=by rw[C];exact iR
 have lB6:f.length=g.length+1:=by rw[C];simp
 have Z:jL f f:=Kp.refl;have eB5:jL g f:=kB6.trans Z;have U:jL q f:=V.trans eB5;have eB3:jL d f:=N.trans U;have eB2:jL j f:=W.trans eB3;have Y:jL k f:=K.trans eB2;have e0:jL S f:=L.trans Y;have yB1:=Y.lst _ _ (λz=>z) xB1;have yB2:=eB2.lst _ _ (λz=>z) xB2;have yB3:=eB3.lst _ _ (λz=>z) xB3;have yB4:=U.lst _ _ (λz=>z) xB4;have yB5:=eB5.lst _ _ (λz=>z) xB5;have yB6:=Z.lst _ _ (λz=>z) xB6;have c1:jJ (.ref n) (.ref k.length) j=.ok (.ref j.length) d:=by rw[B];exact vW ((L.trans K).lst _ _ (λz=>z) h.tab.top) xB2 (by simp;lia)
 have c2:jJ (.ref m) (.ref q.length) g=.ok (.ref g.length) f:=by rw[C];exact vW (((((L.trans K).trans W).trans N).trans V).lst _ _ (λz=>z) h'.tab.top) xB5 (by simp;lia)
 have hB1':S++[O.lst []]=k:=J.symm;have hB4':d++[O.lst []]=q:=F.symm;obtain⟨t1,o1⟩:=uJ (h.kp e0 λ_ _ z=>z) yB3 yB1 ⋯ (λx hx=>by cases hx);obtain⟨t2,_⟩:=uJ (h'.kp e0 λ_ _ z=>z) yB6 yB4 ⋯ (λx hx=>by cases hx);refine⟨.ref j.length,.ref g.length,f,?_,rfl,rfl,EI (o1<|.inr Kl) rfl,t1,t2,hb.kp e0 λz=>z,Kp.of0 e0⟩;dsimp[i6,bools,hB1',<- G,c1,hB4',<- t,c2,mK<|show([_,_]:ad).length<=16777216 by simp]
def Th(hb:nV S b)(h:Cop S n rs P)(h':Cop S m qs Q)(sh:P.map List.length=Q.map List.length)(fl:Q.flatten.length<64):CS b m n a3 S (LS (iE 1) sN<|sO<|Bx vq<|eC<|.int 1) (iE 2):=by
 have len:=h.len;have l1:=h.l1;have ne:=h.ne;have C:=h'.l1;have B:vf (rs.map A.ref) none (some<|-1)=(rs.take<|P.length-1).map A.ref:=by
  rw[Ly (rs.map A.ref) P.length (by rw[aH,len]) ne,List.map_take]
 obtain⟨f,d⟩:∃f,f=S++[O.lst<|(rs.take<|P.length-1).map A.ref]:=⟨_,rfl⟩;have j:jL S f:=by rw[d];kt_k
 have q:iG f S.length=some ((rs.take<|P.length-1).map A.ref):=by rw[d];exact iR
 have h1:=h.tab.nP j;have tb:Tab f S.length (rs.take<|P.length-1) (P.take<|P.length-1):=⟨q,Rows.init h1.rows,bJ.mpr ⟨λz=>by have:=h.tab.lt _<|aN _<|gB z;lia,(bJ.mp h1.nd).2.sublist<|List.take_sublist _ _⟩⟩;have g:∀i,((P.take<|P.length-1).getD i []).length<=60:=λi=>by
  by_cases hi:i<P.length-1
  ·rw[aG,fD hi,<- aG];exact h.lR i
  ·rw[aG,dB<|by rw[cg];lia];exact cj _
 have C1:=h'.kp j λ_ _ z=>z;have k:=b_ List.length sh;rw[aH,aH]at k;refine⟨.ref S.length,.ref m,f,?_,rfl,rfl,EZ tb C1.tab (by rw[cg];lia) () (λi=>by have:=g i;lia) (λi=>by have:=h'.lR i;lia) fl (xC λz=>by
  have:=b_ List.length z;rw[aH,aH,cg]at this
  lia),ue tb (by rw[cg];lia) (λi=>by have:=g i;lia) λr t x hx=>kY<|h.bd r (gB t) x hx,C1.MW,hb.kp j λz=>z,Kp.of0 j⟩
 dsimp[i6,bools,h.tab.top,Int.reduceNeg,B,<- d,mK<|show([_,_]:ad).length<=16777216 by simp]
def Ug(hb:nV S b)(h:Cop S n rs P)(h':Cop S m qs Q)(flN:Q.flatten.length=N)(hN:N<=40):CS b m n a3 S (iK jJ (iE 1)<|jQ<|iD (jQ<|iD (iK j8 (iK j8 (iE 1)<|Bx vq<|eC<|.int 1)<|eC<|.int 0) iJ) iJ) (iK jJ (iE 2)<|jQ<|iD (jQ<|iD (iK jJ (eC<|.int 1)<|iX (f1 BB)<|iD (jb [none] (jF<|iE 2) (je 0) jt<|iX (f1 kj)<|iD (iE 0) iJ) iJ) iJ) iJ):=by
 have len:=h.len;have len':=h'.len;have l1:=h.l1;have l1':=h'.l1;have ne:=h.ne;obtain⟨q1,q2,q3,q4,q5,q6⟩:=h.at (show P.length-1<P.length by lia);have la:=h.last;have a0:=nZ (r:=P.getD (P.length-1) []) (i:=0) (k:=0) rfl q5;obtain⟨t,K⟩:∃t,t=S++[O.lst<|[(P.getD (P.length-1) []).getD 0 0].map A.int]:=⟨_,rfl⟩;have J:jL S t:=by rw[K];kt_k
 have xB1:iG t S.length=some ([(P.getD (P.length-1) []).getD 0 0].map A.int):=by rw[K];exact iR
 have lB1:t.length=S.length+1:=by rw[K];simp
 obtain⟨q,G⟩:∃q,q=t++[O.lst [A.ref S.length]]:=⟨_,rfl⟩;have F:jL t q:=by rw[G];kt_k
 have xB2:iG q t.length=some [A.ref S.length]:=by rw[G];exact iR
 have lB2:q.length=t.length+1:=by rw[G];simp
 obtain⟨j,C⟩:∃j,j=q++[O.lst<|rs.map A.ref++[A.ref S.length]]:=⟨_,rfl⟩;have Y:jL q j:=by rw[C];kt_k
 have xB3:iG j q.length=some (rs.map A.ref++[A.ref S.length]):=by rw[C];exact iR
 have lB3:j.length=q.length+1:=by rw[C];simp
 obtain⟨d,W⟩:∃d,d=j++[O.lst<|(Q.map λr=>(r.length:Int)).map A.int]:=⟨_,rfl⟩;have Z:jL j d:=by rw[W];kt_k
 have xB4:iG d j.length=some ((Q.map λr=>(r.length:Int)).map A.int):=by rw[W];exact iR
 have lB4:d.length=j.length+1:=by rw[W];simp
 obtain⟨B,L⟩:∃B,B=d++[O.lst<|[1+(N:Int)].map A.int]:=⟨_,rfl⟩;have kB5:jL d B:=by rw[L];kt_k
 have xB5:iG B d.length=some ([1+(N:Int)].map A.int):=by rw[L];exact iR
 have lB5:B.length=d.length+1:=by rw[L];simp
 obtain⟨g,V⟩:∃g,g=B++[O.lst [A.ref d.length]]:=⟨_,rfl⟩;have kB6:jL B g:=by rw[V];kt_k
 have xB6:iG g B.length=some [A.ref d.length]:=by rw[V];exact iR
 have lB6:g.length=B.length+1:=by rw[V];simp
 obtain⟨f,U⟩:∃f,f=g++[O.lst<|qs.map A.ref++[A.ref d.length]]:=⟨_,rfl⟩;have kB7:jL g f:=by rw[U];kt_k
 have xB7:iG f g.length=some (qs.map A.ref++[A.ref d.length]):=by rw[U];exact iR
 have lB7:f.length=g.length+1:=by rw[U];simp
 have eB7:jL f f:=Kp.refl;have eB6:jL g f:=kB7.trans eB7;have eB5:jL B f:=kB6.trans eB6;have eB4:jL d f:=kB5.trans eB5;have eB3:jL j f:=Z.trans eB4;have eB2:jL q f:=Y.trans eB3;have eB1:jL t f:=F.trans eB2;have e0:jL S f:=J.trans eB1;have yB1:=eB1.lst _ _ (λz=>z) xB1;have yB2:=eB2.lst _ _ (λz=>z) xB2;have yB3:=eB3.lst _ _ (λz=>z) xB3;have yB4:=eB4.lst _ _ (λz=>z) xB4;have yB5:=eB5.lst _ _ (λz=>z) xB5;have yB6:=eB6.lst _ _ (λz=>z) xB6;have yB7:=eB7.lst _ _ (λz=>z) xB7;have c1:jJ (.ref n) (.ref t.length) q=.ok (.ref q.length) j:=by rw[C];exact vW ((J.trans F).lst _ _ (λz=>z) h.tab.top) xB2 (by simp;lia)
 have c2:jJ (.ref m) (.ref B.length) g=.ok (.ref g.length) f:=by rw[U];exact vW ((((((J.trans F).trans Y).trans Z).trans kB5).trans kB6).lst _ _ (λz=>z) h'.tab.top) xB6 (by simp;lia)
 have h3:=h'.tab.nP<|(J.trans F).trans Y;have ec:=mQ (cap:=[]) (src:=jF<|iE 2) (τ:=[.ref b,.ref n,.ref m,a3]) h3 (jY (by dsimp[i6,bools]) h3.top) ();rw[<- W]at ec;have e4:BB (.ref j.length) d=.ok (.int (N:Int)) d:=by
  show opt (iG d j.length) _=_;rw[xB4,i8,ints_map,i8,L7,<- uM,flN]
 have hB1':S++[O.lst [A.int<|(P.getD (P.length-1) []).getD 0 0]]=t:=K.symm;have hB5':d++[O.lst [A.int<|1+(N:Int)]]=B:=L.symm;obtain⟨t1,o1⟩:=uJ (h.kp e0 λ_ _ z=>z) yB3 yB1 (show 1<=60 by decide) (λx hx=>by rw[aW.mp hx];exact kY<|h.bd _ q4 _<|bg<|Am.getD_at q5);obtain⟨t2,_⟩:=uJ (h'.kp e0 λ_ _ z=>z) yB7 yB5 (show 1<=60 by decide) (λx hx=>by rw[aW.mp hx];lia);refine⟨.ref q.length,.ref g.length,f,?_,rfl,rfl,EI (o1<|.inl<|OX (show 0<1 by decide) λz=>Int.lt_irrefl _ z) rfl,t1,t2,hb.kp e0 λz=>z,Kp.of0 e0⟩;dsimp[i6,bools,h.tab.top,Int.reduceNeg,la,q3,a0,hB1',<- G,c1,ec,e4,hB5',<- V,c2,mK<|show([_,_]:ad).length<=16777216 by simp]
def Rw(hb:nV S b)(h:Cop S n rs P)(h':Cop S m qs Q)(sh:P.map List.length=Q.map List.length)(pm:Q.flatten.Perm<|jG 1<|(N:Int)+1)(hN:N<=40)(h2:2<=N)(hn:b∉n::rs):CS b m n a3 S (iE 1) (eFn j7<|iD (iE 0)<|iD (iE 2) iJ):=by
 obtain⟨M,S4,e4,f,k,d,g⟩:=MR hb h' pm hN h2;have C4:=h.kp g λr j z=>hn (by rw[<- z];exact j);rw[<- sh]at f;refine⟨.ref n,.ref M,S4,?_,rfl,rfl,f.bad C4.tab (by have:=h.l1;lia) (λi=>by have:=h.lR i;lia),C4.MW,k,d,g⟩;dsimp[i6,bools,e4,mK<|show([_,_]:ad).length<=16777216 by simp]
def Uy(hb:nV S b)(h:Cop S n rs P)(h':Cop S m qs Q):CS b m n a3 S (jb [none] (jF<|iE 1) (je 0) jt<|iK jJ (jQ<|iD (iK jJ (iK j8 (iE 0)<|eC<|.int 0)<|iK sX (eC<|.int 10)<|eC<|.int 9) iJ)<|LS (iE 0) (sO<|eC<|.int 1) sN) (iE 2):=by
 have len:=h.len;have l1:=h.l1;have ne:=h.ne;obtain⟨G,hG⟩:∃G:List<|ae,G=P.map λr=>(r.getD 0 0+1000000000)::r.drop 1:=⟨_,rfl⟩;have gl:G.length=P.length:=by rw[hG,aH]
 have U:∀i,i<P.length->G.getD i []=((P.getD i []).getD 0 0+1000000000)::(P.getD i []).drop 1:=λi hi=>by
  have pe:P.getD i []=P[i]:=by rw[aG,aF hi];rfl
  rw[pe,hG,aG,aQ,aF hi];rfl
 obtain⟨ys,S1,e1,k1,vs,K,r1⟩:=wX (s:=jv n rs.length) (g:=je 0) (e:=iK jJ (jQ<|iD (iK jJ (iK j8 (iE 0)<|eC<|.int 0)<|iK sX (eC<|.int 10)<|eC<|.int 9) iJ)<|LS (iE 0) (sO<|eC<|.int 1) sN) (T:=λZ=>∃y,Z=[y])
  (λi acc d=>jL S d/\∃vs:ag,acc=vs.map A.ref/\Rows d vs (G.take i))
  (λi acc τ d hi ⟨y,e⟩ ⟨k,vs,ea,er⟩=>by
   subst e;have hi:i<rs.length:=hi;obtain⟨q1,q2,W,J,F,q6⟩:=(h.kp k λ_ _ z=>z).at (show i<P.length by lia);generalize hR:P.getD i []=R at W J F q6;have a0:=nZ (r:=R) (i:=0) (k:=0) rfl F;have cu:vf (R.map A.int) (some 1) none=(R.drop 1).map A.int:=by
    have:=yR (R.map A.int) 0 (by rw[aH];lia);rw[map_drop];exact this
   obtain⟨f,C⟩:∃f,f=d++[O.lst<|[R.getD 0 0+1000000000].map A.int]:=⟨_,rfl⟩;obtain⟨t,B⟩:∃t,t=f++[O.lst<|(R.drop 1).map A.int]:=⟨_,rfl⟩;have q:jL d f:=by rw[C];kt_k
   have j:jL f t:=by rw[B];kt_k
   have x1:iG f d.length=some ([R.getD 0 0+1000000000].map A.int):=by rw[C];exact iR
   have x2:iG t f.length=some ((R.drop 1).map A.int):=by rw[B];exact iR
   have c1:=vW (j.lst _ _ (λz=>z) x1) x2 (by simp;lia);have L:d++[O.lst [A.int<|R.getD 0 0+1000000000]]=f:=C.symm;refine⟨.ref<|rs.getD i 0,[.ref<|rs.getD i 0],d,.ref t.length,t++[O.lst<|[R.getD 0 0+1000000000].map A.int++(R.drop 1).map A.int],?_,by dsimp[i6,bools],⟨_,rfl⟩,?_,((k.trans q).trans j).lay,vs++[t.length],by rw[ea,b5];rfl,?_⟩
   ·show(iG d n).bind _=_;rw[(h.tab.nP k).top,bw,aQ,q1];rfl
   ·dsimp[i6,bools,W,a0,Lm,L,q.lst _ _ (λz=>z) W,cu,<- B,c1]
   ·rw[gW,aF ()];refine Rows.app (er.mono λr _ xs e=>(((q.trans j).lay)).lst _ _ (λz=>z) e) ⟨?_,trivial⟩;have:G[i]'()=(R.getD 0 0+1000000000)::R.drop 1:=by
     have:=U i ();rw[aG,aF (),hR]at this;exact this
    rw[this,iR];rfl)
  (λacc d ⟨k,_⟩=>by
   show(match iG d n with
    | some ys=>decide (ys.length<=rs.length)
    | none=>false)=true
   rw[(h.tab.nP k).top];simp) rs.length 0 [] [.unb] S rfl ⟨_,rfl⟩ ⟨Kp.refl,[],rfl,by rw[List.take_zero];trivial⟩
 rw[fH]at K;subst K;have r1:Rows S1 vs (G.take rs.length):=r1;rw[c_ ()]at r1;have vl:=r1.len;have ec:jb [none] (jF<|iE 1) (je 0) jt (iK jJ (jQ<|iD (iK jJ (iK j8 (iE 0)<|eC<|.int 0)<|iK sX (eC<|.int 10)<|eC<|.int 9) iJ)<|LS (iE 0) (sO<|eC<|.int 1) sN) [.ref b,.ref n,.ref m,a3] S=.ok (.ref S1.length) (S1++[.lst<|vs.map A.ref]):=by
  unfold jb at *
  rw[jY (S1:=S) (by dsimp[i6,bools]) h.tab.top,Am.R.jZ,aH];show Am.R.jD (kg (jv n rs.length) _ _ _ rs.length 0 [.unb] S) _=_;rw[e1,Am.R.jf,jE<|by rw[aH];lia]
 have k2:jL S (S1++[O.lst<|vs.map A.ref]):=k1.lay;have Y:Tw (S1++[O.lst<|vs.map A.ref]) S1.length vs G:=⟨iR,r1.mono λr _ xs e=>jj e⟩;have gr:∀i,(G.getD i []).length<=60:=λi=>by
  by_cases hi:i<P.length
  ·rw[U i hi,bB,cA];have:=h.lR i;have:=(h.at hi).2.2.2.2.1;lia
  ·rw[aG,dB ()];exact cj _
 have gb:∀i,i<P.length->∀x∈G.getD i [],x.natAbs<2 ^ 200:=λi hi x hx=>by
  rw[U i hi]at hx;obtain⟨_,_,_,J,F,_⟩:=h.at hi
  rcases bh.mp hx with z|z
  ·have:=h.bd _ J _<|bg<|Am.getD_at F;rw[z];lia
  ·exact kY<|h.bd _ J x<|fj z
 have bad:mw (G.getD 0 [])=false:=by
  obtain⟨_,_,_,J,F,_⟩:=h.at ne;have:=h.bd _ J _<|bg<|Am.getD_at F;rw[U 0 ne];unfold mw;have lf:l8 (.int<|(P.getD 0 []).getD 0 0+1000000000)=false:=by
   show(decide _ && decide _)=false;rw[aY<|show ¬(P.getD 0 []).getD 0 0+1000000000<=1000000000 by lia,bO]
  rw[bP,all_cons,lf,bW,bW]
 have C2:=h'.kp k2 λ_ _ z=>z;refine⟨.ref S1.length,.ref m,S1++[O.lst<|vs.map A.ref],?_,rfl,rfl,EI (AK Y () (λi=>by have:=gr i;lia)<|AA (i:=0) () bad) rfl,(kN.lst (n:=7) (c:=120000) Y.top λx hx=>?_).mono<|by rw[aH];lia,C2.MW,hb.kp k2 λz=>z,Kp.of0 k2⟩
 ·dsimp[i6,bools,ec,mK<|show([_,_]:ad).length<=16777216 by simp]
 ·obtain⟨r,V,rfl⟩:=bA.mp hx;obtain⟨i,hi,e⟩:=cH V;obtain⟨hT,N⟩:=Y.rows.get (i:=i) (r:=r) (by rw[aF hi,e]);have:=gr i;exact kN.row (n:=5) N ()<|gb i ()
end
end K59
namespace K59
open PySem L2 Am
def Jx{n N:Nat}{P Q:List<|ae}(hb:nV S b)(h:Cop S n rs P)(h':Cop S m qs Q)(sh:P.map List.length=Q.map List.length)(pm:Q.flatten.Perm<|jG 1<|(N:Int)+1)(hN:N<=40)(h2:2<=N)(hn:b∉n::rs)(hm:b∉m::qs):∃x y S',p7 [.ref b,.ref n,.ref m] S=.ok (.tup [x,y]) S'/\x.j5=false/\y.j5=false/\Ob S' x y/\kN S' 8 x 8000000/\kN S' 8 y 8000000/\nV S' b/\Kp (·=b) S S':=by
 obtain⟨w,S1,e1,t,q,d,k1⟩:=digit (m:=8) hb ⋯ ⋯;have C:=h.kp k1 λr j z=>hn (by rw[<- z];exact j);have f:=h'.kp k1 λr j z=>hm (by rw[<- z];exact j);have k:=pm.length_eq;rw[l9]at k;have g:Q.flatten.length=N:=()
 unfold p7 vG vd;dsimp[i6,bools,jI,Nat.reduceAdd,Nat.reduceSub,e1]
 rcases(by lia:w=0\/w=1\/w=2\/w=3\/w=4\/w=5\/w=6\/w=7)with z|z|z|z|z|z|z|z<;>subst z
 ·obtain⟨x,y,S2,e2,ux,uy,bd,tx,ty,hb2,k2⟩:=Ua (a3:=.int 0) d C f hn hm;x_go
 ·obtain⟨x,y,S2,e2,ux,uy,bd,tx,ty,hb2,k2⟩:=Tn (a3:=.int 1) d C f hn hm;x_go
 ·obtain⟨x,y,S2,e2,ux,uy,bd,tx,ty,hb2,k2⟩:=TY (a3:=.int 2) d C f;x_go
 ·obtain⟨x,y,S2,e2,ux,uy,bd,tx,ty,hb2,k2⟩:=Th (a3:=.int 3) d C f sh ();x_go
 ·obtain⟨x,y,S2,e2,ux,uy,bd,tx,ty,hb2,k2⟩:=Uy (a3:=.int 4) d C f;x_go
 ·obtain⟨x,y,S2,e2,ux,uy,bd,tx,ty,hb2,k2⟩:=Ug (a3:=.int 5) d C f g hN;x_go
 ·obtain⟨x,y,S2,e2,ux,uy,bd,tx,ty,hb2,k2⟩:=Rw (a3:=.int 6) d C f sh pm hN h2 hn;x_go
 ·obtain⟨x,y,S2,e2,ux,uy,bd,tx,ty,hb2,k2⟩:=Rw (a3:=.int 7) d C f sh pm hN h2 hn;x_go
def NB{n:Nat}{xs:ae}(h:Tab S n rs (Tb.tabs xs xs.length).1)(hx:∀x∈xs,1<=x/\x<=1000000000)(h0:0<xs.length)(hl:xs.length<=60):Cop S n rs (Tb.tabs xs xs.length).1:=by
 obtain⟨g,f⟩:=Tb.tB xs xs.length;refine⟨h,Sy.su xs<|aL _,xX hx _<|aL _,?_,(),λr d=>?_⟩
 ·rcases gY (Tb.tabs xs xs.length).1.length with z|z
  ·have:=Tb.rg xs xs.length;rw[gC z]at this;have:0=xs.length:=this
   lia
  ·exact z
 ·obtain⟨i,hi,e⟩:=cH d;have:=f i;rw[aG,aF hi,e]at this;have:r.length<=xs.length:=this
  lia
def Oe{n:Nat}{xs:ae}(h:Tab S n rs (Tb.tabs xs xs.length).2)(h0:0<xs.length)(hl:xs.length<=60):Cop S n rs (Tb.tabs xs xs.length).2:=by
 obtain⟨j,g⟩:=Tb.tB xs xs.length;have tl:=Tb.A7 xs xs.length;have f:=Tb.kZ xs xs.length;refine⟨h,Sy.rK xs _<|aL _,λr d x hx=>?_,?_,(),λr d=>?_⟩
 ·have:=kW.mp ((rX xs xs.length).mem_iff.mp<|cN.mpr ⟨r,d,hx⟩)
  lia
 ·rw[tl]
  rcases gY (Tb.tabs xs xs.length).1.length with z|z
  ·have:=Tb.rg xs xs.length;rw[gC z]at this;have:0=xs.length:=this
   lia
  ·exact z
 ·obtain⟨i,hi,e⟩:=cH d;have:=g i;rw[<- Tb.mq,<- f,Tb.mq,aG,aF hi,e]at this;have:r.length<=xs.length:=this
  lia
def Cop.few{Q:List<|ae}(h:Cop S m qs Q):Few Q.flatten.length Q.length Q:=⟨rfl,(λi=>by have:=h.lR i;lia),(λr d x hx=>kY<|h.bd r d x hx),aL _⟩
def EC{N:Nat}{T:List<|ae}(h:Few F N T):Few F T.length T:=⟨rfl,h.row,h.bd,h.fl⟩
def PM(ns:ae)(hl:ns.length<=63):∃S',zA [.frz<|ns.map .int] []=.ok (.bl true) S':=by
 generalize([]:iM)=S;unfold zA K8 KW;dsimp[i6,bools,jI,Nat.reduceAdd,Nat.reduceSub];generalize hM:(if (if (6:Int)<(ns.length:Int)then(6:Int)else(ns.length:Int))>2 then(if (6:Int)<(ns.length:Int)then(6:Int)else(ns.length:Int))else 2)=M;have M0:2<=M:=by rw[<- hM];split<;>lia
 have M1:M<=6:=by rw[<- hM];split<;>split<;>lia
 refine ug (lo:=0) (hi:=M) (S1:=S) (show FQ _ _=_ from mV (by dsimp[i6,bools,aH,hM])<|lF () ())
  (λi τ S1=>∃a1 a2 a3 a4 a5 a6 a7 a8,τ=[.frz<|ns.map .int,a1,a2,a3,a4,a5,a6,a7,a8])
  (λr=>∃S',RS.end (RS.seq r _)=.ok (.bl true) S') ⟨_,_,_,_,_,_,_,_,rfl⟩ ?_ ?_
 ·rintro i τ S1 hi ⟨a1,a2,a3,a4,a5,a6,a7,a8,rfl⟩;obtain⟨S2,e2,hb2,k2⟩:=MI (S:=S1) (ns:=ns) (k:=0+(i:Int)) () ();have bS:=hb2.lt;generalize hb:S1.length=b at e2 hb2 bS;obtain⟨f,S3,e3,f0,f1',hb3,k3⟩:=digit (m:=9) hb2 ⋯ ⋯;obtain⟨g,d,e3',g0,g1',hb3',k3'⟩:=digit (m:=9) hb3 ⋯ ⋯;obtain⟨S4,hS4⟩:∃S4,S4=d++[O.lst<|[1+f,1+g].map A.int]:=⟨_,rfl⟩;have k34:jL d S4:=by rw[hS4];kt_k
  have x4:iG S4 d.length=some ([1+f,1+g].map A.int):=by rw[hS4];exact iR
  have hb4:=hb3'.kp k34 λz=>z;have b3:=hb3'.lt;obtain⟨xs,L,S6,e6,g6,hx6,hxb,hb6,k6,l6⟩:=Dt (most:=10) hb4 ⋯ ⋯;have x6:iG S6 d.length=some ([1+f,1+g].map A.int):=k6.lst _ _ () x4;obtain⟨S7,hS7⟩:∃S7,S7=S6++[O.lst<|((1+f)::(1+g)::xs).map A.int]:=⟨_,rfl⟩;have c7:jJ (.ref d.length) (.ref L) S6=.ok (.ref S6.length) S7:=by rw[hS7];exact vW x6 g6 (by simp;lia)
  have x7:iG S7 S6.length=some (((1+f)::(1+g)::xs).map A.int):=by rw[hS7];exact iR
  have k67:jL S6 S7:=by rw[hS7];kt_k
  obtain⟨zs,hzs⟩:∃zs,zs=(1+f)::(1+g)::xs:=⟨_,rfl⟩;have zl:zs.length=xs.length+2:=by rw[hzs];rfl
  have zb:∀x∈zs,1<=x/\x<=1000000000:=λx hx=>by
   rw[hzs]at hx
   rcases bh.mp hx with z|z
   ·rw[z];lia
   ·rcases bh.mp z with z|z
    ·rw[z];lia
    ·exact hxb x z
  rw[<- hzs]at x7;obtain⟨rs,qs,n,m,S8,e8,hP,hQ,k8,fr8',fq8',_⟩:=w6 x7 ();have hb8:=hb6.kp (k67.trans k8) λz=>z;have b6:=hb6.lt;have ln67:=k67.len;have hn:b∉n::rs:=λz=>by have:=fr8' b z;lia
  have hm:b∉m::qs:=λz=>by have:=fq8' b z;lia
  have C8:=NB hP zb () ();have D8:=Oe hQ () ();obtain⟨pr,er⟩:=L3 (xs:=zs) () zb;have pm:=pr.pm;have sh:=pr.sh;have flN:=pr.fl;have g8:=k8.lst _ _ (λz=>z) x7;have bL:S6.length≠b:=()
  unfold Es;dsimp[i6,bools,e2,e3,e3',show d++[O.lst [A.int<|1+f,A.int<|1+g]]=S4 from hS4.symm,e6,c7,e8,kq<|show([_,_]:ad).length=2 from rfl];generalize(Tb.tabs zs zs.length).1=P at *
  generalize(Tb.tabs zs zs.length).2=Q at *
  left;refine ug (lo:=0) (hi:=8) (S1:=S8) (show Fb _ _=_ from mV (S:=S8) (S1:=S8) (by dsimp[i6,bools])<|lF ⋯ ⋯)
   (λj τ S'=>(∃b6 b7 b8,τ=[.frz<|ns.map .int,.int<|0+(i:Int),.ref b,.ref S6.length,.ref n,.ref m,b6,b7,b8])/\Cop S' n rs P/\Cop S' m qs Q/\nV S' b/\iG S' S6.length=some (zs.map .int))
   (λr=>∃Z S',RS.seq r _=.nx Z S'/\∃a1 a2 a3 a4 a5 a6 a7 a8,Z=[.frz<|ns.map .int,a1,a2,a3,a4,a5,a6,a7,a8])
   ⟨⟨_,_,_,rfl⟩,C8,D8,hb8,g8⟩ ?_ ?_
  ·rintro j τ S14 hj ⟨⟨b6,b7,b8,rfl⟩,W,F,t,g14⟩;left;obtain⟨x,y,G,e15,ux,uy,bd,tx,ty,N,k15⟩:=Jx t W F sh pm () () hn hm;have C15:=W.kp k15 λr U z=>hn (by rw[<- z];exact U);have D15:=F.kp k15 λr U z=>hm (by rw[<- z];exact U);obtain⟨J,e16,C⟩:=sY bd ux uy tx ty;have C16:=C15.kp C λ_ _ z=>z;have D16:=D15.kp C λ_ _ z=>z;obtain⟨B,S17,e17,g17,K,_⟩:=xj C16.tab D16.tab pr;rw[er]at g17;have l17:=K.lst _ _ (λz=>z)<|C.lst _ _ (λz=>z)<|k15.lst _ _ bL g14;have q17:=AH<|w_ g17 l17;rw[aX rfl,bU]at q17;have C17:=C16.kp K λ_ _ z=>z;have D17:=D16.kp K λ_ _ z=>z;have hb17:=(N.kp C λz=>z).kp K λz=>z;obtain⟨m1,vs1,T1,S18,e18,t18,f18,hb18,Y⟩:=xN hb17 C17;have C18:=C17.kp Y λr U z=>hn (by rw[<- z];exact U);have D18:=D17.kp Y λr U z=>hm (by rw[<- z];exact U);have pl1:=W.l1;have ql1:=F.l1;have qne:=F.ne;have m18:=f18.many;obtain⟨S19,e19,V⟩:=Lv t18 D18.tab (EC f18) D18.few () ql1 qne ();have C19:=C18.kp V λ_ _ z=>z;have D19:=D18.kp V λ_ _ z=>z;obtain⟨m2,vs2,T2,S20,e20,t20,f20,hb20,k20⟩:=xN (hb18.kp V λz=>z) D19;have C20:=C19.kp k20 λr U z=>hn (by rw[<- z];exact U);have D20:=D19.kp k20 λr U z=>hm (by rw[<- z];exact U);have m20:=f20.many;obtain⟨S21,e21,k21⟩:=Lv C20.tab t20 C20.few (EC f20) pl1 () () ();have C21:=C20.kp k21 λ_ _ z=>z;have D21:=D20.kp k21 λ_ _ z=>z;have l21:=k21.lst _ _ (λz=>z)<|k20.lst _ _ bL<|V.lst _ _ (λz=>z)<|Y.lst _ _ bL l17;have u:∀S:iM,uV x S=.ok x S:=λS=>rG ux;have v:∀S:iM,uV y S=.ok y S:=λS=>rG uy;unfold EV;dsimp[i6,oR,bools,e15,kq<|show([_,_]:ad).length=2 from rfl,u,v,e16,bU,e17,q17,e18,e19,e20,e21];exact⟨_,_,rfl,⟨_,_,_,rfl⟩,C21,D21,hb20.kp k21 λz=>z,l21⟩
  ·rintro τ S14 ⟨⟨b6,b7,b8,rfl⟩,W,F,t,g14⟩;obtain⟨h,G,e15,h0,h1,N,k15⟩:=digit (m:=20) t ⋯ ⋯;obtain⟨c,hc⟩:∃c:Nat,41+h=(c:Int):=⟨(41+h).toNat,()⟩;obtain⟨ys,J,e16,us,l16,z16,b16,hb16,C⟩:=wX (s:=nH 0 (c:Int)) (g:=je 0) (e:=iK jJ (eC<|.int 1)<|eFn iP<|iD (iE 1)<|iD (eC<|.int 9) iJ) (T:=λZ=>∃y,Z=[y,.ref b])
    (λi acc S'=>∃zs:ae,acc=zs.map A.int/\zs.length=i/\(∀z∈zs,1<=z/\z<=1000000000)/\nV S' b/\Kp (·=b) G S')
    (λi acc τ S' hi ⟨y,e⟩ ⟨zs,ea,el,ez,eb,ek⟩=>by
     subst e;obtain⟨q,S12,e12,q0,q1,hb12,k12⟩:=digit (m:=9) eb ⋯ ⋯;refine⟨.int<|0+(i:Int),[.int<|0+(i:Int),.ref b],S',.int<|1+q,S12,bf hi,by dsimp[i6,bools],⟨_,rfl⟩,by dsimp[i6,bools,e12],zs++[1+q],by rw[ea,b5];rfl,by rw[aO,el];rfl,λz hz=>?_,hb12,ek.trans k12⟩
     rcases bT.mp hz with w|w
     ·exact ez z w
     ·rw[aW.mp w];lia)
    (λacc S' _=>rfl) c 0 [] [.unb,.ref b] G (by show c+0=((c:Int)-0).toNat;lia) ⟨_,rfl⟩ ⟨[],rfl,rfl,(nofun),N,Kp.refl⟩
   rw[fH]at l16;have z16:us.length=((c:Int)-0).toNat:=z16;subst l16;have ec:jb [none,some 2] (mY<|iK jJ (eC<|.int 41)<|eFn iP<|iD (iE 2)<|iD (eC<|.int 20) iJ) (je 0) jt (iK jJ (eC<|.int 1)<|eFn iP<|iD (iE 1)<|iD (eC<|.int 9) iJ) [.frz<|ns.map .int,.int<|0+(i:Int),.ref b,.ref S6.length,.ref n,.ref m,b6,b7,b8] S14=.ok (.ref J.length) (J++[.lst<|us.map A.int]):=by
    unfold jb;rw[mV (S1:=G) (j:=(c:Int)) (by dsimp[i6,bools,e15,hc])<|lF () (),Am.R.jZ];show Am.R.jD (kg (nH 0 (c:Int)) _ _ _ ((c:Int)-0).toNat 0 [.unb,.ref b] G) _=_;rw[show((c:Int)-0).toNat=c by lia,e16,Am.R.jf,jE<|by rw[aH];lia]
   obtain⟨rs',qs',n',m',S17,e17,hP',hQ',K,_,_,_⟩:=w6 (S:=J++[O.lst<|us.map A.int]) (L:=J.length) (xs:=us) iR ();have C17:=NB hP' b16 () ();have D17:=Oe hQ' () ();have pm':=(rX us us.length).length_eq;rw[l9]at pm';have fb:(Tb.tabs us us.length).2.flatten.length=us.length:=()
   obtain⟨S18,e18,Y⟩:=sY (EZ C17.tab D17.tab (by have:=C17.l1;lia) (by have:=D17.l1;lia) (λi=>by have:=C17.lR i;lia) (λi=>by have:=D17.lR i;lia) () (by
    unfold lE;rw[aY<|show ¬(Tb.tabs us us.length).2.flatten.length<=40 by lia,bW,bO,bO,bO])) rfl rfl C17.MW D17.MW
   dsimp[i6,bools,ec,e17,kq<|show([_,_]:ad).length=2 from rfl,e18,bU];exact⟨_,_,rfl,_,_,_,_,_,_,_,_,rfl⟩
 ·rintro τ S1 ⟨a1,a2,a3,a4,a5,a6,a7,a8,rfl⟩;dsimp[i6,bools];exact⟨_,rfl⟩
end K59
namespace K59
open PySem L2 Am
def all_mk{l:PySem.W.OpenLaw}{w:af}{K:aq}{h:ak}{mg:Str->be}{fa:aj}(X:K.In h)(G:h.Ns mainGlobals mg)(hfa:mg "law" = some (.ref fa))
  (a1:Df K "is_whole" sR)
  (a2:Df K "is_letter" qW)
  (a3:Df K "is_letters" qf)
  (a4:Df K "is_table_row" oF)
  (a5:Df K "fits_under" qx)
  (a6:Df K "is_table" s_)
  (a7:Df K "copied" ye)
  (a8:Df K "shape" zW)
  (a9:Df K "is_pair_of_tables" lH)
  (a10:Df K "last_smaller" ou)
  (a11:Df K "take_out" tW)
  (a12:Df K "row_back" sV)
  (a13:Df K "_law_bag" uU)
  (a14:Df K "_law_digit" rH)
  (a15:Df K "_law_letters" pG)
  (a16:Df K "_law_put" vj)
  (a17:Df K "_law_tables" qc)
  (a18:Df K "_law_is" xr)
  (a19:Df K "_law_refused" pL)
  (a20:Df K "_law_odd_second" mP)
  (a21:Df K "_law_odd" vD)
  (a22:Df K "_law_is_whole" oM)
  (a23:Df K "_law_is_table" oN)
  (a24:Df K "_law_changed" pK)
  (a25:Df K "_law_is_second" nB)
  (a26:Df K "_law_as_due" qg)
  (a27:Df K "law" KP)
  (WA:PySem.W.nsIn K mainGlobals "isinstance" = some none)
  (WB:PySem.W.nsIn K mainGlobals "bool" = some none)
  (WC:PySem.W.nsIn K mainGlobals "int" = some none)
  (WD:PySem.W.nsIn K mainGlobals "all" = some none)
  (WE:PySem.W.nsIn K mainGlobals "list" = some none)
  (WG:PySem.W.nsIn K mainGlobals "sorted" = some none)
  (WH:PySem.W.nsIn K mainGlobals "len" = some none)
  (WI:PySem.W.nsIn K mainGlobals "zip" = some none)
  (WJ:PySem.W.nsIn K mainGlobals "range" = some none)
  (WK:PySem.W.nsIn K mainGlobals "enumerate" = some none)
  (WL:PySem.W.nsIn K mainGlobals "ValueError" = some none)
  (WM:PySem.W.nsIn K mainGlobals "repr" = some none)
  (WN:PySem.W.nsIn K mainGlobals "sum" = some none)
  (WO:PySem.W.nsIn K mainGlobals "tuple" = some none)
  (WQ:PySem.W.nsIn K mainGlobals "max" = some none)
  (WR:PySem.W.nsIn K mainGlobals "min" = some none)
  {Wy:Tok} (WS:PySem.W.nsIn K mainGlobals "GREATEST_LETTER" = some (some<|.int 1000000000 Wy))
  {Wz:Tok} (WT:PySem.W.nsIn K mainGlobals "MOST_LETTERS" = some (some<|.int 40 Wz))
  {U C_NoTables C_TooMany C_NoPair C_NoNumber C_NoWord C_NoName C_NoRow C_NoText:aj} (u0:PySem.W.nsIn K mainGlobals "UnderError" = some (some<|.ref U)) (u1:L2.mroIn K U=some P5)
  (VH:ExcK K U "NoTables" C_NoTables)
  (n_TooMany:PySem.W.nsIn K mainGlobals "TooMany" = some (some<|.ref C_TooMany))
  (n_NoPair:PySem.W.nsIn K mainGlobals "NoPair" = some (some<|.ref C_NoPair))
  (n_NoNumber:PySem.W.nsIn K mainGlobals "NoNumber" = some (some<|.ref C_NoNumber))
  (n_NoWord:PySem.W.nsIn K mainGlobals "NoWord" = some (some<|.ref C_NoWord))
  (n_NoName:PySem.W.nsIn K mainGlobals "NoName" = some (some<|.ref C_NoName))
  (n_NoRow:PySem.W.nsIn K mainGlobals "NoRow" = some (some<|.ref C_NoRow))
  (n_NoText:PySem.W.nsIn K mainGlobals "NoText" = some (some<|.ref C_NoText))
  (k_NoTables_TooMany:PySem.W.kitOne K (.ref C_NoTables) (.ref C_TooMany)=some false)
  (k_NoTables_NoPair:PySem.W.kitOne K (.ref C_NoTables) (.ref C_NoPair)=some false)
  (k_NoTables_NoNumber:PySem.W.kitOne K (.ref C_NoTables) (.ref C_NoNumber)=some false)
  (k_NoTables_NoWord:PySem.W.kitOne K (.ref C_NoTables) (.ref C_NoWord)=some false)
  (k_NoTables_NoName:PySem.W.kitOne K (.ref C_NoTables) (.ref C_NoName)=some false)
  (k_NoTables_NoRow:PySem.W.kitOne K (.ref C_NoTables) (.ref C_NoRow)=some false)
  (k_NoTables_NoText:PySem.W.kitOne K (.ref C_NoTables) (.ref C_NoText)=some false)
  (k_NoTables_NoTables:PySem.W.kitOne K (.ref C_NoTables) (.ref C_NoTables)=some true)
  : ∃fd:FuncData,(∀(s:aA) (v:aa),BindsTo s fd ⟨[v],[]⟩ [("_law_script",v)])/\∀base:ak,K.In base->base.Ns mainGlobals mg->FnOk l.prog w K mg base qG 10 fa fd ["_law_script"] (qR K 1 zA):=by
 obtain⟨f,fd,a,F⟩:=a27;have e:=hfa.symm.trans (cM X G a)
 cases e
 have Wf:=cM X G n_TooMany;have Wg:=cM X G n_NoPair;have Wh:=cM X G n_NoNumber;have Wi:=cM X G n_NoWord;have Wj:=cM X G n_NoName;have Wk:=cM X G n_NoRow;have Wl:=cM X G n_NoText;have Wm:=cM X G VH.n;have k:=bR X G WA;have L:=bR X G WB;have J:=bR X G WC;have q:=bR X G WD;have j:=bR X G WE;have z:=bR X G WG;have d:=bR X G WH;have V6:=bR X G WI;have g:=bR X G WJ;have Wa:=bR X G WK;have Y:=bR X G WL;have VY:=bR X G WM;have B:=bR X G WN;have VZ:=bR X G WO;have Wt:=bR X G WQ;have Wu:=bR X G WR;have V2:∃t,mg "GREATEST_LETTER" = some (.int 1000000000 t):=⟨Wy,cM X G WS⟩;have V9:∃t,mg "MOST_LETTERS" = some (.int 40 t):=⟨Wz,cM X G WT⟩;refine⟨fd,λs v=>(by obtain⟨_,_,_,_,_,_,_,_,_,rfl,_,_⟩:=F.ex;exact .of_eq rfl),λbase _ _=>?_⟩;have E:En l.prog w K mg base:=⟨h,X,G⟩;have V3:=a1.kA E (λF=>AR F k L J)<|CU λ_ _ _ _ _ _ _=>rfl;have V4:=a2.kA E (λF=>zT F V2 V3)<|CU λ_ _ _ _ _ _ _=>rfl;have V5:=a3.kA E (λF=>yv F q k j V4)<|CU λ_ _ _ _ _ _ _=>rfl;have V7:=a4.kA E (λF=>wk F z d V5)<|CU λ_ _ _ _ _ _ _=>rfl;have V8:=a5.kA E (λF=>yE F q V6 d)<|F_ λ_ _ _ _ _ _ _ _=>rfl;have VX:=a6.kA E (λF=>Ba F q k j g d V7 V8)<|CU λ_ _ _ _ _ _ _=>rfl;have Wc:=a7.kA E (λF=>Gg F j)<|CU λ_ _ _ _ _ _ _=>rfl;have VW:=a8.kA E (λF=>IW F d)<|CU λ_ _ _ _ _ _ _=>rfl;have Wb:=a9.kA E (λF=>qZ F z j g d V9 VW VX)<|F_ λ_ _ _ _ _ _ _ _=>rfl;have V_:=a10.kA E (λF=>wB F d)<|F_ λ_ _ _ _ _ _ _ _=>rfl;have Wd:=a11.kA E (λF=>AY F g V_)<|F_ λ_ _ _ _ _ _ _ _=>rfl;have C:=a12.kX E (λF=>Cd F VH Wa g d Wb Wc Wd)<|F_ λ_ _ _ _ _ _ _ _=>rfl;have Wv:=a13.kA E (λF=>Cw F d)<|F_ λ_ _ _ _ _ _ _ _=>rfl;have m:=a14.kA E (λF=>zQ F)<|F_ λ_ _ _ _ _ _ _ _=>rfl;have V:=a15.kA E (λF=>xY F g m)<|F_ λ_ _ _ _ _ _ _ _=>rfl;have We:=a16.kA E (λF=>Du F j g d)<|F_ λ_ _ _ _ _ _ _ _=>rfl;have P:=a17.kA E (λF=>yr F g d We)<|CU λ_ _ _ _ _ _ _=>rfl;have Wo:=a18.kH E (λF=>Gw F VH Wf Wg Wh Wi Wj Wk Wl Wm k_NoTables_TooMany k_NoTables_NoPair k_NoTables_NoNumber k_NoTables_NoWord k_NoTables_NoName k_NoTables_NoRow k_NoTables_NoText k_NoTables_NoTables k Y)<|F_ λ_ _ _ _ _ _ _ _=>rfl;have N:=a19.kA E (λF=>xq F u0 u1 VH VY C Wo)<|F_ λ_ _ _ _ _ _ _ _=>rfl;have Wq:=a20.kA E (λF=>uC F j B d m)<|F_ λ_ _ _ _ _ _ _ _=>rfl;have Z:=a21.kA E (λF=>Ds F VZ B d m Wq)<|Vx λ_ _ _ _ _ _ _ _ _=>rfl;have Wr:=a22.kA E (λF=>wG F k L J)<|CU λ_ _ _ _ _ _ _=>rfl;have O:=a23.kA E (λF=>wo F k j q z g d Wr)<|CU λ_ _ _ _ _ _ _=>rfl;have V1:=a24.kA E (λF=>xh F j d m)<|F_ λ_ _ _ _ _ _ _ _=>rfl;have Ws:=a25.kA E (λF=>vh F z B j g d O)<|CU λ_ _ _ _ _ _ _=>rfl;have V0:=a26.kA E (λF=>yC F d j Ws O N P C)<|F_ λ_ _ _ _ _ _ _ _=>rfl;exact Po F g Wt Wu d Wv m V P Z C N V0 V1
def walk{l:PySem.W.OpenLaw}{q:ah}{XP:(Str->be)->ak->Prop}{YP:af->ak->Prop}{d:DefRec}{K:Params->aq}(hn:l.most=some 63)(hdf:d.params.defaults=[])
  (hY:∀(w:af) (h:ak),YP w h->(K w.params).In h)
  (F:∀(w:af) (mg:Str->be) (fa:aj) (h:ak),(K w.params).In h->h.Ns mainGlobals mg->mg d.name=some (.ref fa) ->
   ∃fd:FuncData,(∀(s:aA) (u:aa),BindsTo s fd ⟨[u],[]⟩ [("_law_script",u)])/\∀base:ak,(K w.params).In base->base.Ns mainGlobals mg->FnOk l.prog w (K w.params) mg base qG 10 fa fd ["_law_script"] (qR (K w.params) 1 zA)) :
  PySem.W.WalkO q loose XP YP l.row.toRowW d [] (λf vs=>PySem.call f vs):=
 L2.M7 (n:=63) (k:=10) (x := "_law_script") (CX:=λ_=>qG) (sp:=λw=>qR (K w.params) 1 zA) hn ⋯ hdf ⟨rfl,by decide,by decide,rfl⟩ hY F (λ_ H a ns j g m=>GH g m<|PM ns j) λ_ _ _ _ _ z=>z
end K59
open PySem PySem.W PyProof.Rows
namespace PySem.W.Fast
def tw9449898080895793372:=Nat
def tw1198147922677715253:=Nat
def tw8609436640150763612:=Nat
def tw2354176435522901840:=Nat
def tw5341326278612150077:=Nat
def tw15323921469813568136:=Nat
def tw4346706118019100270:=Nat
def tw6617036611082244861:=Nat
def tw5806283122773567378:=Nat
def tw9747409210173537247:=Nat
def tw1132436675560342355:=Nat
def tw6295110954391863203:=Nat
def tw15680968267050959254:=Nat
def tw11160131948624945761:=Nat
def tw17881174038024742595:=Nat
def tw2412117955362836951:=Nat
def tw9786662370549439714:=Nat
def tw8193230387408092077:=Nat
def tw10313968733136583152:=Nat
def tw9808532339402884462:=Nat
def tw7129376604535343020:=Nat
def tw1616135492609844407:=Nat
def tw685007929917282901:=Nat
def tw5673089163356980138:=Nat
def tw18088791156899069696:=Nat
def tw3253237102130982478:=Nat
def tw13711752199217959732:=Nat
def tw16757486742320463027:=Nat
def tw3107012921739472288:=Nat
def tw8996492841937602882:=Nat
def tw5577803791639365256:=Nat
def tw8633536422790097011:=Nat
def tw17443304982730858926:=Nat
def tw9606382128160430185:=Nat
def tw13552525292312796786:=Nat
def tw14619175465402093108:=Nat
def tw5583821870393617689:=Nat
def tw13341342902448258124:=Nat
def tw10974987570198833413:=Nat
def tw16843820004224865019:=Nat
def tw2482422134406228276:=Nat
def tw13932578373290297502:=Nat
def tw3304753100908274599:=Nat
def tw4159654606430649870:=Nat
def tw9030175628394610319:=Nat
def tw14419875060516796690:=Nat
def tw1552295810980818759:=Nat
def tw8935060407960752514:=Nat
def tw14618231863616330354:=Nat
def tw4795249072314714611:=Nat
def tw5327841236821342671:=Nat
def tw1544998038825884357:=Nat
def tw3356078767985110680:=Nat
def tw6015791669696379156:=Nat
def tw12948379712676880830:=Nat
def tw5998733266956558239:=Nat
def tw7079425931587055883:=Nat
def tw12128717196626209218:=Nat
def tw13130116651681430124:=Nat
def tw11256515342942207648:=Nat
def tw15812967554755028424:=Nat
def tw14005893751936250286:=Nat
def tw7519798537819990666:=Nat
def tw3289145271094529326:=Nat
def tw10773744641574601803:=Nat
def tw9067466968150527508:=Nat
def tw13619814841568045657:=Nat
def tw8788752771979171161:=Nat
def tw9839850841464083146:=Nat
def tw15848480524684613521:=Nat
def tw12451854990278565106:=Nat
def tw681767523225795937:=Nat
def tw7883611203564790836:=Nat
def tw6614903189110770847:=Nat
def tw1558284225868953665:=Nat
def tw15454457636053090549:=Nat
def tw3027176997767891027:=Nat
def tw18151005916974321644:=Nat
def tw16257934047247054586:=Nat
def tw2309093791376479685:=Nat
def tw6166064421958411411:=Nat
def tw18270056244731278178:=Nat
def tw17708535686853234067:=Nat
def tw18011226449481225897:=Nat
def tw1616842711821032621:=Nat
def tw15134967712061281544:=Nat
def tw12488950804984304464:=Nat
def tw2453315042051440708:=Nat
def tw12778389268347060381:=Nat
def tw11033229578067863022:=Nat
def tw9047056418708669937:=Nat
def tw11171223275476210693:=Nat
def tw6569103823819626000:=Nat
def tw5756824744344805275:=Nat
def tw18140579759370118976:=Nat
def tw1016657032439439104:=Nat
def tw9092059630584766904:=Nat
def tw12567366003207764049:=Nat
def tw11460790210891985523:=Nat
def tw2659344190846495450:=Nat
def tw11598494592929010745:=Nat
def tw1461846139934672107:=Nat
def tw16267178043997960255:=Nat
def tw12756001459526357029:=Nat
def tw8381283153122620770:=Nat
def tw14023069585765909257:=Nat
def tw17046064851101606648:=Nat
def tw1217732913992984478:=Nat
def tw3343142540535681264:=Nat
def tw14173211517697158830:=Nat
def tw3997023864606699052:=Nat
def tw5535481589998432094:=Nat
def tw7228088182103818524:=Nat
def tw131229433612299182:=Nat
def tw1979334096557133082:=Nat
def tw12243226229492634341:=Nat
def tw17611717775323310065:=Nat
def tw132959541736860849:=Nat
def tw11615488439860021312:=Nat
def tw10929871235493215607:=Nat
def tw8791437125313675535:=Nat
def tw4432118837837165241:=Nat
def tw1824427419764949613:=Nat
def tw1977728886856461539:=Nat
def tw12903675952914123296:=Nat
def tw15008231228610017696:=Nat
def tw10245939549613995252:=Nat
def tw5709773393103639653:=Nat
def tw10615583677702646262:=Nat
def tw1416907083213884111:=Nat
def tw4888273262514680367:=Nat
def tw17077729423143691518:=Nat
def tw6750149635556243377:=Nat
def tw12192223709770057274:=Nat
def tw6402654564662375586:=Nat
def tw7437548986553766048:=Nat
def tw5995769366043472448:=Nat
def tw12229687691299120511:=Nat
def tw16913985333509847202:=Nat
def tw221295175624181632:=Nat
end PySem.W.Fast
set_option maxRecDepth 100000 in
set_option maxHeartbeats 0 in
theorem PySem.Challenge.cw_undercells_k59_no_two_tables_holds : PySem.Challenge.rw_undercells_k59_no_two_tables.Holds := by
 w_on;o_law;k_head;(case hw=>w_witness2)
 k_fill
 refine K59.walk (l:=PySem.Challenge.rw_undercells_k59_no_two_tables) rfl rfl (fun w h Y=>PySem.W.kIn_of Y) ?F
 case F=>
  intro w mg fa h KX G hmg;refine' K59.all_mk KX G hmg (.of ?_ ?_ ?_ ?_) (.of ?_ ?_ ?_ ?_) (.of ?_ ?_ ?_ ?_) (.of ?_ ?_ ?_ ?_) (.of ?_ ?_ ?_ ?_) (.of ?_ ?_ ?_ ?_) (.of ?_ ?_ ?_ ?_) (.of ?_ ?_ ?_ ?_) (.of ?_ ?_ ?_ ?_) (.of ?_ ?_ ?_ ?_) (.of ?_ ?_ ?_ ?_) (.of ?_ ?_ ?_ ?_) (.of ?_ ?_ ?_ ?_) (.of ?_ ?_ ?_ ?_) (.of ?_ ?_ ?_ ?_) (.of ?_ ?_ ?_ ?_) (.of ?_ ?_ ?_ ?_) (.of ?_ ?_ ?_ ?_) (.of ?_ ?_ ?_ ?_) (.of ?_ ?_ ?_ ?_) (.of ?_ ?_ ?_ ?_) (.of ?_ ?_ ?_ ?_) (.of ?_ ?_ ?_ ?_) (.of ?_ ?_ ?_ ?_) (.of ?_ ?_ ?_ ?_) (.of ?_ ?_ ?_ ?_) (.of ?_ ?_ ?_ ?_) ?_ ?_ ?_ ?_ ?_ ?_ ?_ ?_ ?_ ?_ ?_ ?_ ?_ ?_ ?_ ?_ ?_ ?_ ?_ ?_ ⟨(show nsIn _ _ _=_ from ?_),?_,?_,⟨?_,?_,?_,?_,?_⟩,?_,?_⟩ ?_ ?_ ?_ ?_ ?_ ?_ ?_ ?_ ?_ ?_ ?_ ?_ ?_ ?_ ?_
  any_goals first|k_is|kernel_rfl
