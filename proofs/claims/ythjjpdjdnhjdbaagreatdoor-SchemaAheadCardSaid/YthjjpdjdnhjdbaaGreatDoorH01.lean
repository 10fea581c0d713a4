/-
  Part 1 of 18 of what the proof leans on; no condition besides.
-/
import Derived.Test.YthjjpdjdnhjdbaaGreatDoorProg
import Derived.WalkSpells
import Derived.WalkLawsBesides
import Derived.Deep.RegionWith
import Derived.Deep.DrawnRows
import Derived.BigQuiet
import Derived.Lib.Hide
import Derived.Deep.AppendLies
import Derived.Lib.BufSteps
import Derived.Lib.ReplaceLaws
import Derived.Lib.ItoaNum
import Derived.Lib.Join
import Derived.Lib.AtoiAll
set_option maxHeartbeats 1000000
set_option linter.unusedVariables false
set_option linter.unusedSimpArgs false
namespace Go.Proofs.YthjjpdjdnhjdbaaGreatDoor
open Go Go.RowKit
set_option linter.defProp false
theorem zhq{p:Prop}(h:p):Hid p:=Lib.hid h
def zeX:=@Array.getElem?_eq_some_iff
def zeY:=@List.all_eq_true
def zeZ:=@List.mem_range
def ze0:=@List.map_congr_left
def ze1:=@Nat.lt_or_ge
def ze2:=@Array.getElem?_eq_none
def ze3:=@List.mem_filterMap
def ze4:=@Bool.and_eq_true
def ze5:=@List.any_eq_true
def ze6:=@decide_eq_true_eq
def ze7:=@Bool.or_eq_true
def ze8:=@Array.getElem?_eq_getElem
def ze9:=@List.mem_map
def zfa:=@List.mem_filter
def zfb:=@Nat.le_refl
def zfc:=@Bool.false_or
def zfd:=@List.contains_iff_mem
def zfe:=@Bool.not_false
def zff:=@Bool.not_true
def zfg:=@Bool.false_eq_true
def zfh:=@Ne.symm
def zfi:=@Option.bind_some
def zfj:=@Bool.not_eq_true'
def zfk:=@Go.RowKit.Below.refl
def zfl:=@Nat.le_trans
def zfm:=@List.map_cons
def zfn:=@List.mem_cons
def zfo:=@List.nodup_cons
def zfp:=@List.mem_append_left
def zfq:=@List.map_append
def zfr:=@List.append_assoc
def zfs:=@List.nodup_append
def zft:=@List.mem_append_right
def zfu:=@List.mem_append
def zfv:=@Bool.false_ne_true
def zfw:=@List.filterMap_cons_some
def zfx:=@List.mem_of_getElem?
def zfy:=@Option.toList_none
def zfz:=@List.nil_append
def zfA:=@Option.toList_some
def zfB:=@List.cons_append
def zfC:=@List.head?_cons
def zfD:=@List.length_cons
def zfE:=@Nat.add_assoc
def zfF:=@List.append_nil
def zfG:=@Nat.zero_add
def zfH:=@Go.ByteArray.toList_eq
def zfI:=@Go.RowKit.Below.heap_alloc
def zfJ:=@Array.getElem?_modify
def zfK:=@Go.Sem.run_bind
def zfL:=@Go.Sem.run_pure
def zfM:=@Go.Result.andThen_ok
def zfN:=@Bool.eq_iff_iff
def zfO:=@decide_eq_true
def zfP:=@decide_eq_false
def zfQ:=@List.drop_succ_cons
def zfR:=@List.take_succ_cons
def zfS:=@Nat.add_mul
def zfT:=@List.length_append
def zfU:=@List.mem_singleton
def zfV:=@List.length_nil
def zfW:=@List.takeWhile_append_dropWhile
def zfX:=@Option.some.injEq
def zfY:=@Prod.mk.injEq
def zfZ:=@List.dropWhile_cons
def zf0:=@Option.map_some
def zf1:=@List.takeWhile_cons
def zf2:=@List.foldl_cons
def zf3:=@List.mem_cons_of_mem
def zf4:=@Go.Lib.join_cons
def zf5:=@List.isEmpty_cons
def zf6:=@Nat.zero_le
def zf7:=@List.mem_of_find?_eq_some
def zf8:=@Int.toNat_natCast
def zf9:=@List.flatMap_cons
def zga:=@List.isEmpty_eq_false_iff
def zgb:=@List.take_add_one
def zgc:=@Bool.and_true
def zgd:=@List.getD_eq_getElem?_getD
def zge:=@List.getElem?_eq_getElem
def zgf:=@Bool.or_eq_false_iff
def zgg:=@Bool.and_eq_false_iff
def zgh:=@decide_eq_false_iff_not
def zgi:=@List.length_map
def zgj:=@List.length_pos_iff
def zgk:=@Option.some.inj
def zgl:=@Bool.true_and
def zgm:=@Bool.not_eq_true
def zgn:=@List.getElem?_of_mem
def zgo:=@List.getElem?_eq_some_iff
def zgp:=@List.getElem?_take
def zgq:=@Nat.lt_of_lt_of_le
def zgr:=@Option.isSome_none
def zgs:=@List.getElem?_toArray
def zgt:=@List.eq_nil_of_length_eq_zero
def zgu:=@Go.World.ownsRow.cells
def zgv:=@Go.WideShapes.add_plain
def zgw:=@List.mem_flatMap
def zgx:=@List.flatMap_append
def zgy:=@List.map_nil
def zgz:=@Nat.mul_one
def zgA:=@Nat.add_zero
def zgB:=@Go.World.block_lt_of_cell?
def zgC:=@Go.Lib.hid
def zgD:=@List.take_of_length_le
def zgE:=@Go.RowKit.Below.heap_setCell
def zgF:=@Bool.false_and
def zgG:=@Bool.and_false
def zgH:=@List.cons.injEq
def zgI:=@List.getElem?_set_self
def zgJ:=@Go.Addr.mk.injEq
def zgK:=@List.getElem?_drop
def zgL:=@List.getElem?_cons_zero
def zgM:=@Nat.not_lt_zero
def zgN:=@List.length_drop
def zgO:=@List.getElem?_map
def zgP:=@Go.MapKept.run_getObj_map
def zgQ:=@List.not_mem_nil
def zgR:=@Option.bind_none
def zgS:=@Go.RowKit.Below.setCell
def zgT:=@Nat.le_of_lt
def zgU:=@Nat.le_of_eq
def zgV:=@Go.Lib.OthersKept.refl
def zgW:=@Option.map_eq_some_iff
def zgX:=@List.getElem?_cons_succ
def zgY:=@List.drop_eq_getElem_cons
def zgZ:=@List.drop_eq_nil_of_le
def zg0:=@Array.length_toList
def zg1:=@UInt8.toNat_inj
def zg2:=@List.take_zero
def zg3:=@List.mem_cons_self
def zg4:=@Go.IntKind.wrap_i64
def zg5:=@Go.Lib.extract_eq
def zg6:=@List.mem_of_mem_take
def zg7:=@List.take_length
def zg8:=@List.setIfInBounds_toArray
def zg9:=@List.set_cons_zero
def zha:=@List.set_cons_succ
def zhb:=@Nat.lt_of_le_of_lt
def zhc:=@List.drop_drop
def zhd:=@List.length_take
def zhe:=@Option.isSome_eq_false_iff
def zhf:=@Option.isNone_iff_eq_none
def zhg:=@List.length_replicate
def zhh:=@List.getElem?_replicate_of_lt
def zhi:=@Go.Lib.run_eql_slice_nil
def zhj:=@Go.World.cell?_setCell_other
def zhk:=@List.getElem?_set_ne
def zhl:=@Classical.choose_spec
def zhm:=@Go.DataW.trod_string
def zhn:=@Go.DataW.trod_struct
def zho:=@Go.DataW.trod_int
def zhp:=@Go.Value.slice.injEq
namespace Reg
def zN(o:Oper):List Nat:=(o.after.toList.filter fun e=>Region.binds .any e).map (·.on)
def slot(a:Act)(t:Tmp):Value:=a.tmps.getD t undef
def Xq(ops:Array Oper):List Tmp:=ops.toList.filterMap (·.dst)
def At(see:Nat→List Tmp)(fact:Nat→List Value→World→Prop)(i:Nat)(a:Act)(w:World):Prop:=fact i ((see i).map (slot a)) w
def UL(ops:Array Oper)(see deps olds:Nat→List Nat)(i:Nat)(o:Oper):Bool:=((olds i).all fun t=>(List.range ops.size).all fun k=>match ops[k]? with|some ok=>ok.dst !=some t||(zN ok).contains i|none=>true)&&((zN o).all fun j=>decide (j<i))&&((deps i).all fun j=>(zN o).any fun k=>j==k||(deps k).contains j)&&((List.range ops.size).all fun k=>match(ops[k]?).bind (·.dst)with|some d=>!(see i).contains d||k==i||(deps i).contains k|none=>true)
def ok(ops:Array Oper)(see deps olds:Nat→List Nat):Bool:=(List.range ops.size).all fun i=>match ops[i]? with|some o=>UL ops see deps olds i o|none=>true
section
variable {P : Program} {ops : Array Oper} {Q : Exit → Act → World → Prop} {see deps olds : Nat → List Nat} {fact : Nat → List Value → World → Prop}
theorem xb(h:ok ops see deps olds=true){i:Nat}{o:Oper}(hi:ops[i]?=some o):UL ops see deps olds i o=true:=by have hlt:i<ops.size:=(zeX.1 hi).1;have:=zeY.1 h i (zeZ.2 hlt);simpa[hi]using this
structure Inv (ops : Array Oper) (see : Nat → List Nat) (fact : Nat → List Value → World → Prop) (B : Nat) (a0 : Act) (w0 : World) (listed : Array Bool) (a : Act) (w : World) : Prop where
 defers : a.defers = a0.defers
 size : a.tmps.size = a0.tmps.size
 old : ∀ t, (∀ k o, ops[k]? = some o → o.dst = some t → listed.getD k true = false) → slot a t = slot a0 t
 below : Below B w0 w
 down : ∀ i o, ops[i]? = some o → listed.getD i true = true → ∀ j ∈ zN o, listed.getD j true = true
 facts : ∀ i, i < ops.size → listed.getD i true = true → At see fact i a w
def StepOk(P:Program)(ops:Array Oper)(Q:Exit→Act→World→Prop)(see deps olds:Nat→List Nat)(fact:Nat→List Value→World→Prop)(B:Nat)(a0:Act)(w0:World)(i:Nat)(o:Oper):Prop:=∀(a:Act)(w:World),a.tmps.size=a0.tmps.size→(∀t,t∉Xq ops→slot a t=slot a0 t)→(∀t∈olds i,slot a t=slot a0 t)→Below B w0 w→(∀j∈deps i,At see fact j a w)→wpOp P ops Q i (fun a' w'=>∃v,a'=a.put o.dst v∧At see fact i a' w'∧Below B w w'∧∀j,j≠i→j<ops.size→At see fact j a w→At see fact j a w') a w
theorem yG(a:Act)(dst:Option Tmp)(v:Value)(t:Tmp)(h:dst≠some t):slot (a.put dst v) t=slot a t:=by cases dst with|none=>rfl|some d=>have hne:d≠t:=fun e=>h (by rw[e]);simp[slot,Act.put,Array.getElem?_setIfInBounds_ne hne]
theorem zy(a:Act)(d:Tmp)(v:Value)(h:d<a.tmps.size):slot (a.put (some d) v) d=v:=by simp[slot,Act.put,h]
theorem X8(a:Act)(dst:Option Tmp)(v:Value):(a.put dst v).tmps.size=a.tmps.size:=by cases dst<;>simp[Act.put]
theorem xK(a:Act)(dst:Option Tmp)(v:Value):(a.put dst v).defers=a.defers:=by cases dst<;>rfl
theorem Lh{i:Nat}{a:Act}{w:World}{dst:Option Tmp}{v:Value}(h:∀d,dst=some d→d∉see i)(hf:At see fact i a w):At see fact i (a.put dst v) w:=by unfold At at*;have:(see i).map (slot (a.put dst v))=(see i).map (slot a):=ze0 fun t ht=>yG a dst v t (fun e=>h t e ht);rw[this];exact hf
theorem Zi{listed:Array Bool}{j:Nat}(h:listed.getD j true=false):j<listed.size:=by rcases ze1 j listed.size with h'|h';·{exact h'};simp[ze2 h']at h
theorem X9{listed:Array Bool}{i j:Nat}(h:(listed.setIfInBounds i true).getD j true=true):j=i∨listed.getD j true=true:=by by_cases e:j=i;·{exact .inl e};right;rw[getD_set_ne true (fun e'=>e e'.symm)]at h;exact h
theorem UN{t:Tmp}(h:t∉Xq ops){k:Nat}{o:Oper}(hk:ops[k]?=some o):o.dst≠some t:=fun hd=>h (ze3.2 ⟨o,by have:=Array.mem_of_getElem? hk;simpa using this,hd⟩)
theorem Inv.rest{B:Nat}{a0:Act}{w0:World}{listed:Array Bool}{a:Act}{w:World}(h:Inv ops see fact B a0 w0 listed a w)(t:Tmp)(ht:t∉Xq ops):slot a t=slot a0 t:=h.old t fun _ _ hk hd=>absurd hd (UN ht hk)
theorem ZH(hok:ok ops see deps olds=true){listed:Array Bool}(down:∀i o,ops[i]?=some o→listed.getD i true=true→∀j∈zN o,listed.getD j true=true):∀(n i:Nat)(o:Oper),i≤n→ops[i]?=some o→(∀j∈zN o,listed.getD j true=true)→∀j∈deps i,listed.getD j true=true:=by intro n;induction n with|zero=>intro i o hi ho hd j hj;have h:=xb hok ho;simp only[UL,ze4,zeY,ze5,ze6]at h;obtain⟨k,hk,_⟩:=h.1.2 j hj;have:=h.1.1.2 k hk;omega|succ n ih=>intro i o hi ho hd j hj;have h:=xb hok ho;simp only[UL,ze4,zeY,ze5,ze6]at h;obtain⟨k,hk,hjk⟩:=h.1.2 j hj;have hki:=h.1.1.2 k hk;rcases ze7 _ _▸hjk with e|e;·{have:j=k:=by{simpa using e};subst this;exact hd j hk};have hko:k<ops.size:=by{have:=(zeX.1 ho).1;omega};exact ih k ops[k] (by omega) (ze8 hko) (down k ops[k] (ze8 hko) (hd k hk)) j (by simpa using e)
theorem wpAny_inv(hok:ok ops see deps olds=true){B:Nat}{a0:Act}{w0:World}(hstep:∀i o,ops[i]?=some o→StepOk P ops Q see deps olds fact B a0 w0 i o)(hend:∀a w,a.defers=a0.defers→a.tmps.size=a0.tmps.size→(∀t,t∉Xq ops→slot a t=slot a0 t)→Below B w0 w→(∀i,i<ops.size→At see fact i a w)→Q .normal a w):∀(fuel:Nat)(listed:Array Bool)(a:Act)(w:World),listed.size=ops.size→(listed.toList.countP fun b=>!b)≤fuel→Inv ops see fact B a0 w0 listed a w→wpAny P .any ops Q fuel listed a w:=by have final:∀(listed:Array Bool)(a:Act)(w:World),listed.size=ops.size→Inv ops see fact B a0 w0 listed a w→Region.ready .any ops listed=[]→Q .normal a w:=by{intro listed a w hsz hI hr;have all:∀(n i:Nat),i<n→i<ops.size→listed.getD i true=true:=by{intro n;induction n with|zero=>intro i hi;omega|succ n ih=>intro i hi ho;cases hl:listed.getD i true with|true=>rfl|false=>have hmem:i∈Region.ready .any ops listed:=by{refine mem_ready.2 ⟨hl,ops[i],ze8 ho,fun e he hb=>?_⟩;have hdir:e.on∈zN ops[i]:=ze9.2 ⟨e,zfa.2 ⟨by simpa using he,hb⟩,rfl⟩;have h:=xb hok (ze8 ho);simp only[UL,ze4,zeY,ze6]at h;have hlt:=h.1.1.2 _ hdir;have:=ih e.on (by omega) (by omega);have hs:e.on<listed.size:=by{omega};simp[hs]at this⊢;exact this};rw[hr]at hmem;cases hmem};exact hend a w hI.defers hI.size hI.rest hI.below fun i hi=>hI.facts i hi (all (i+1) i (by omega) hi)};intro fuel;induction fuel with|zero=>intro listed a w hsz hc hI;have hnil:Region.ready .any ops listed=[]:=by{rcases hr:Region.ready .any ops listed with _|⟨x,xs⟩;·{rfl};exfalso;have hx:x∈Region.ready .any ops listed:=by{rw[hr];simp};have h0:=(mem_ready.1 hx).1;have hlt:=Zi h0;have:false∈listed.toList:=by{have:listed[x]=false:=by{simpa[hlt]using h0};exact this▸(by{simp}:listed[x]∈listed.toList)};have hp:0<listed.toList.countP fun b=>!b:=List.countP_pos_iff.2 ⟨false,this,rfl⟩;omega};exact⟨hnil,final listed a w hsz hI hnil⟩|succ fuel ih=>intro listed a w hsz hc hI;refine⟨final listed a w hsz hI,fun i hi=>?_⟩;obtain⟨h0,o,ho,hall⟩:=mem_ready.1 hi;have hilt:i<ops.size:=(zeX.1 ho).1;have hdir:∀j∈zN o,listed.getD j true=true:=by{intro j hj;obtain⟨e,he,rfl⟩:=ze9.1 hj;obtain⟨he1,he2⟩:=zfa.1 he;have:=hall e (by simpa using he1) he2;rcases ze1 e.on listed.size with h'|h';·{simp[h']at this⊢;exact this};simp[ze2 h']at this};have hdeps:=ZH hok hI.down i i o (zfb _) ho hdir;have hdepslt:∀j∈deps i,j<ops.size:=by{intro j hj;have key:∀(n i:Nat)(o:Oper),i≤n→ops[i]?=some o→∀j∈deps i,j<i:=by{intro n;induction n with|zero=>intro i o hi ho j hj;have h:=xb hok ho;simp only[UL,ze4,zeY,ze5,ze6]at h;obtain⟨k,hk,_⟩:=h.1.2 j hj;have:=h.1.1.2 k hk;omega|succ n ihn=>intro i o hi ho j hj;have h:=xb hok ho;simp only[UL,ze4,zeY,ze5,ze6]at h;obtain⟨k,hk,hjk⟩:=h.1.2 j hj;have hki:=h.1.1.2 k hk;rcases ze7 _ _▸hjk with e|e;·{have:j=k:=by{simpa using e};omega};have hko:k<ops.size:=by{have:=(zeX.1 ho).1;omega};have:=ihn k ops[k] (by omega) (ze8 hko) j (by simpa using e);omega};have:=key i i o (zfb _) ho j hj;omega};have hOld:∀t∈olds i,slot a t=slot a0 t:=by{intro t ht;refine hI.old t fun k ok hk hd=>?_;have h:=xb hok ho;simp only[UL,ze4,zeY]at h;have hkk:=h.1.1.1 t ht k (zeZ.2 (zeX.1 hk).1);simp only[hk,hd,bne_self_eq_false,zfc,zfd]at hkk;cases hl:listed.getD k true with|false=>rfl|true=>have:=hI.down k ok hk hl i hkk;rw[this]at h0;cases h0};refine wpOp_mono ?_ (hstep i o ho a w hI.size hI.rest hOld hI.below fun j hj=>hI.facts j (hdepslt j hj) (hdeps j hj));rintro a' w'⟨v,rfl,hfi,hbw,hkeep⟩;have hnl:∀j,j<ops.size→listed.getD j true=true→i∉deps j:=by{intro j hj hlj hmem;have:=ZH hok hI.down j j ops[j] (zfb _) (ze8 hj) (hI.down j ops[j] (ze8 hj) hlj) i hmem;rw[this]at h0;cases h0};refine ih _ _ _ (by simpa using hsz) ?_ ⟨?_,?_,?_,?_,?_,?_⟩;·{have hls:i<listed.size:=Zi h0;have hv:listed[i]=false:=by{simpa[hls]using h0};have hset:(listed.setIfInBounds i true).toList=listed.toList.set i true:=by{simp};rw[hset,List.countP_set (by simpa using hls)];have h1:listed.toList[i]=false:=by{simpa using hv};simp only[h1,zfe,if_true,zff,zfg,if_false];omega};·{rw[xK];exact hI.defers};·{rw[X8];exact hI.size};·{intro t ht;have hne:o.dst≠some t:=fun hd=>by{have:=ht i o ho hd;have hls:i<listed.size:=Zi h0;simp[hls]at this};rw[yG _ _ _ _ hne];refine hI.old t fun k ok hk hd=>?_;have:=ht k ok hk hd;by_cases e:i=k;·{subst e;exact h0};rwa[getD_set_ne true e]at this};·{exact hI.below.trans hbw};·{intro j oj hoj hlj k hk;rcases X9 hlj with rfl|hl;·{rw[ho]at hoj;cases hoj;have hki:k≠j:=by{have h:=xb hok ho;simp only[UL,ze4,zeY,ze6]at h;have:=h.1.1.2 k hk;omega};rw[getD_set_ne true (zfh hki)];exact hdir k hk};have:=hI.down j oj hoj hl k hk;by_cases e:i=k;·{subst e;rw[this]at h0;cases h0};rw[getD_set_ne true e];exact this};intro j hj hlj;rcases X9 hlj with rfl|hl;·{exact hfi};have hji:j≠i:=by{rintro rfl;rw[hl]at h0;cases h0};have hfj:=hkeep j hji hj (hI.facts j hj hl);refine Lh (fun d hd hmem=>?_) hfj;have h:=xb hok (ze8 hj);simp only[UL,ze4,zeY]at h;have:=h.2 i (zeZ.2 hilt);simp only[ho,zfi,hd]at this;simp only[ze7,zfj,beq_iff_eq,zfd]at this;rcases this with(h1|h1)|h1;·{simp[hmem]at h1};·{exact hji h1.symm};exact hnl j hj hl h1
theorem wp_region_facts{id:Nat}{a:Act}{w:World}(hm:P.follows .mixedOrders=true)(see deps olds:Nat→List Nat)(fact:Nat→List Value→World→Prop)(hok:ok ops see deps olds=true)(B:Nat)(hstep:∀i o,ops[i]?=some o→StepOk P ops Q see deps olds fact B a w i o)(hend:∀a' w',a'.defers=a.defers→a'.tmps.size=a.tmps.size→(∀t,t∉Xq ops→slot a' t=slot a t)→Below B w w'→(∀i,i<ops.size→At see fact i a' w')→Q .normal a' w'):(Code.region id ops true).wp P Q a w:=by refine wp_region_any hm ?_;refine wpAny_inv hok (B:=B) (a0:=a) (w0:=w) hstep hend ops.size _ a _ (by simp) ?_ ⟨rfl,rfl,fun _ _=>rfl,(zfk _ _).drew,?_,?_⟩;·{refine zfl List.countP_le_length ?_;simp};·{intro i o hi hl;have hlt:i<ops.size:=(zeX.1 hi).1;simp[hlt]at hl};intro i hi hl;simp[hi]at hl
end
end Reg
namespace Reg
def putAll(a:Act):List (Tmp×Value)→Act|[]=>a|x::l=>putAll (a.put (some x.1) x.2) l
theorem Zj(l:List (Tmp×Value)):∀a:Act,(putAll a l).tmps.size=a.tmps.size:=by induction l with|nil=>intro a;rfl|cons x l ih=>intro a;rw[putAll,ih,X8]
theorem Y2(l:List (Tmp×Value)):∀a:Act,(putAll a l).defers=a.defers:=by induction l with|nil=>intro a;rfl|cons x l ih=>intro a;rw[putAll,ih,xK]
theorem zP(l:List (Tmp×Value))(t:Tmp):∀a:Act,t∉l.map (·.1)→slot (putAll a l) t=slot a t:=by induction l with|nil=>intro a _;rfl|cons x l ih=>intro a h;simp only[zfm,zfn,not_or]at h;rw[putAll,ih _ h.2,yG];intro e;injection e with e;exact h.1 e.symm
theorem yS(l:List (Tmp×Value))(t:Tmp)(v:Value):∀a:Act,t<a.tmps.size→(l.map (·.1)).Nodup→(t,v)∈l→slot (putAll a l) t=v:=by induction l with|nil=>intro a _ _ h;(cases h)|cons x l ih=>intro a ht hn h;simp only[zfm,zfo]at hn;rw[putAll];rcases zfn.1 h with rfl|h;·{rw[zP _ _ _ hn.1,zy _ _ _ ht]};exact ih _ (by rw[X8];exact ht) hn.2 h
def fin(a:Act)(vals:List (Tmp×Value))(free:List Tmp)(g:Tmp→Value):Act:=putAll a (vals++free.map fun t=>(t,g t))
def fr(a:Act)(vals late:List (Tmp×Value))(free:List Tmp)(early:Nat→Bool)(i:Nat)(g:Tmp→Value):Act:=if early i then fin a vals free g else fin a (vals++late) free g
def xZ(ops:Array Oper)(late:List (Tmp×Value))(early:Nat→Bool)(i:Nat):List Tmp:=match ops[i]? with|some o=>if early i then(o.looksAt ops).filter fun t=>(late.map (·.1)).contains t else[]|none=>[]
def Nq(ops:Array Oper)(n:Nat)(vals late:List (Tmp×Value))(free:List Tmp)(sf:Nat→List Tmp)(early:Nat→Bool):Bool:=(((vals++late).map (·.1)++free).all fun t=>decide (t<n)&&(Xq ops).contains t)&&((Xq ops).all fun t=>((vals++late).map (·.1)++free).contains t)&&decide (((vals++late).map (·.1)++free).Nodup)&&decide ((Xq ops).Nodup)&&((List.range ops.size).all fun i=>match ops[i]? with|none=>true|some o=>((zN o).all fun j=>decide (j<i))&&((xZ ops late early i).all fun t=>(List.range ops.size).all fun k=>match ops[k]? with|some ok=>ok.dst !=some t||(zN ok).contains i|none=>true)&&((o.looksAt ops).all fun t=>!(Xq ops).contains t||(xZ ops late early i).contains t||(zN o).any fun j=>((ops[j]?).bind (·.dst))==some t)&&((sf i).all fun t=>free.contains t&&(o.dst==some t||(zN o).any fun j=>((ops[j]?).bind (·.dst))==some t)))
def xD(ops:Array Oper)(sf:Nat→List Tmp)(i:Nat):List Tmp:=(((ops[i]?).bind (·.dst)).toList)++sf i
def ZW(ops:Array Oper)(i:Nat):List Nat:=((ops[i]?).map zN).getD []
def yM(ops:Array Oper)(vals:List (Tmp×Value))(p:Nat→List Value→World→Prop)(i:Nat)(vs:List Value)(w:World):Prop:=match(ops[i]?).bind (·.dst)with|some d=>(∀v,(d,v)∈vals→vs.head?=some v)∧p i vs.tail w|none=>p i vs w
section
variable {P : Program} {ops : Array Oper} {Q : Exit → Act → World → Prop}
theorem XO(o:Oper)(a a':Act)(hsz:a.tmps.size=a'.tmps.size)(h:∀t∈o.looksAt ops,slot a t=slot a' t):Region.wanted o (yielded ops a.tmps)=Region.wanted o (yielded ops a'.tmps):=by unfold Region.wanted;cases hg:o.guard with|none=>rfl|some gw=>obtain⟨g,want⟩:=gw;have hy:yielded ops a.tmps g=yielded ops a'.tmps g:=by{unfold yielded;cases ht:(ops[g]?).bind (·.dst)with|none=>rfl|some t=>have:=h t (by simp[Oper.looksAt,hg,ht]);have e:a.tmps[t]?=a'.tmps[t]?:=by{rcases ze1 t a.tmps.size with hlt|hge;·{have hlt':t<a'.tmps.size:=hsz▸hlt;simp only[slot,Array.getD_eq_getD_getElem?,ze8 hlt,ze8 hlt',Option.getD_some]at this;rw[ze8 hlt,ze8 hlt',this]};rw[ze2 hge,ze2 (show a'.tmps.size≤t from hsz▸hge)]};simp only[zfi,e]};simp only[hy]
theorem Vz(o:Oper)(hs:∀cs b,o.op≠ .select cs b)(a a':Act)(h:∀t∈o.looksAt ops,slot a t=slot a' t):execOp a.eval o=execOp a'.eval o:=execOp_congr o hs fun x hx=>by cases x with|tmp t=>exact h t (zfp _ (ze3.2 ⟨.tmp t,by simpa using hx,rfl⟩))|_=>rfl
def Does(P:Program)(ops:Array Oper)(vals:List (Tmp×Value))(sf:Nat→List Tmp)(p:Nat→List Value→World→Prop)(B:Nat)(F:Act)(i:Nat)(o:Oper)(w:World):Prop:=if Region.wanted o (yielded ops F.tmps)=true then Oper.wp P o F w (fun a' w'=>∃v,a'=F.put o.dst v∧(∀d u,o.dst=some d→(d,u)∈vals→v=u)∧p i ((sf i).map (slot a')) w'∧Below B w w'∧∀j,j≠i→j<ops.size→p j ((sf j).map (slot F)) w→p j ((sf j).map (slot F)) w') (fun _ _ _=>False)else(∀d u,o.dst=some d→(d,u)∈vals→undef=u)∧p i ((sf i).map (slot (F.put o.dst undef))) w
theorem Yo{o:Oper}{a F:Act}{K K':Act→World→Prop}{r:Result Next}(h:∀v w,K' (F.put o.dst v) w→K (a.put o.dst v) w)(hnd:∀d w,¬K' (({F with defers:=d::F.defers}:Act).put o.dst undef) w)(hh:o.upon P F K' (fun _ _ _=>False) r):o.upon P a K Q r:=by cases r with|ok n w=>(cases n with|value v=>exact h _ _ hh|skip=>exact h _ _ hh|defer d=>exact absurd hh (hnd d w)|enter f args=>refine Calls.mono hh ?_;intro e w' he;(cases e with|returned v=>exact h _ _ he|panicked c=>exact(he:False).elim|outgrown=>obtain⟨_,_,hf⟩:=he;exact hf.elim)|row row args=>refine Rows.mono hh ?_;intro u w' he;exact h _ _ he|_=>exact(hh:False).elim)|halt x w=>cases x<;>exact(hh:False).elim
theorem Yc(a:Act)(vals late:List (Tmp×Value))(free:List Tmp)(early:Nat→Bool)(i:Nat)(g:Tmp→Value):(fr a vals late free early i g).tmps.size=a.tmps.size:=by unfold fr fin;split<;>rw[Zj]
theorem wp_region_run{id:Nat}{a:Act}{w:World}(hm:P.follows .mixedOrders=true)(hs:Region.noSelect ops=true)(vals late:List (Tmp×Value))(free:List Tmp)(sf:Nat→List Tmp)(early:Nat→Bool)(p:Nat→List Value→World→Prop)(n:Nat)(hn:a.tmps.size=n)(hok:Nq ops n vals late free sf early=true)(B:Nat)(hstep:∀i o,ops[i]?=some o→∀(g:Tmp→Value)(w':World),Below B w w'→(∀j∈zN o,p j ((sf j).map (slot (fr a vals late free early i g))) w')→Does P ops (vals++late) sf p B (fr a vals late free early i g) i o w')(hend:∀(g:Tmp→Value)(w':World),Below B w w'→(∀i,i<ops.size→p i ((sf i).map (slot (fin a (vals++late) free g))) w')→Q .normal (fin a (vals++late) free g) w'):(Code.region id ops true).wp P Q a w:=by have hok':=hok;simp only[Nq,ze4,zeY,ze6,zfd]at hok;obtain⟨⟨⟨⟨hk1,hk2⟩,hnod⟩,hdn⟩,hop⟩:=hok;have hkeys:∀(l:List (Tmp×Value))(g:Tmp→Value),(l++free.map fun t=>(t,g t)).map (·.1)=l.map (·.1)++free:=fun l g=>by{simp[List.map_map,Function.comp_def]};have hopi:∀i o,ops[i]?=some o→(∀j∈zN o,j<i)∧(∀t∈o.looksAt ops,t∈Xq ops→t∈xZ ops late early i∨∃j∈zN o,(ops[j]?).bind (·.dst)=some t)∧(∀t∈sf i,t∈free∧(o.dst=some t∨∃j∈zN o,(ops[j]?).bind (·.dst)=some t)):=by{intro i o hi;have:=hop i (zeZ.2 (zeX.1 hi).1);simp only[hi,ze4,zeY,ze6,ze7,zfj,ze5,beq_iff_eq]at this;refine⟨this.1.1.1,fun t ht hd=>?_,fun t ht=>⟨by simpa using(this.2 t ht).1,(this.2 t ht).2⟩⟩;rcases this.1.2 t ht with(h|h)|h;·{simp[hd]at h};·{exact .inl (by simpa using h)};exact .inr h};have hnod1:(vals.map (·.1)++free).Nodup:=by{have h:=hnod;simp only[zfq,zfr]at h;have h1:=zfs.1 h;have h2:=zfs.1 h1.2.1;exact zfs.2 ⟨h1.1,h2.2.1,fun x hx y hy=>h1.2.2 x hx y (zft _ hy)⟩};have hlatefree:∀t,t∈late.map (·.1)→t∉vals.map (·.1)++free:=by{intro t ht hm;have h:=hnod;simp only[zfq,zfr]at h;have h1:=zfs.1 h;have h2:=zfs.1 h1.2.1;rcases zfu.1 hm with hv|hf;·{exact h1.2.2 t hv t (zfp _ ht) rfl};exact h2.2.2 t ht t hf rfl};have hslot:∀(i:Nat)(a':Act),a'.tmps.size=a.tmps.size→(∀t,t∉Xq ops→slot a' t=slot a t)→∀t,(t∉Xq ops∨t∈free∨(∃v,(t,v)∈vals∧slot a' t=v)∨(early i=false∧∃v,(t,v)∈late∧slot a' t=v)∨(early i=true∧t∈late.map (·.1)∧slot a' t=slot a t))→slot a' t=slot (fr a vals late free early i (slot a')) t:=by{intro i a' hsz hrest t ht;have hfree':t∈free→∀l,(l.map (·.1)++free).Nodup→slot (fin a l free (slot a')) t=slot a' t:=by{intro hf l hl;rw[fin,yS _ t (slot a' t) a (by rw[hn];exact(hk1 t (zft _ hf)).1) (by rw[hkeys];exact hl) (zft _ (ze9.2 ⟨t,hf,rfl⟩))]};have hval':∀v,(t,v)∈vals++late→∀l,(t,v)∈l→(l.map (·.1)++free).Nodup→slot (fin a l free (slot a')) t=v:=by{intro v hv l hl hnn;rw[fin,yS _ t v a (by rw[hn];exact(hk1 t (zfp _ (ze9.2 ⟨_,hv,rfl⟩))).1) (by rw[hkeys];exact hnn) (zfp _ hl)]};unfold fr;rcases ht with ht|ht|⟨v,hv,hs⟩|⟨he,v,hv,hs⟩|⟨he,ht,hs⟩;·{have no:t∉(vals++late).map (·.1)++free:=fun hm=>ht (hk1 t hm).2;have no1:t∉vals.map (·.1)++free:=fun hm=>no (by simp only[zfq,zfr];rcases zfu.1 hm with h|h;·{exact zfp _ h};exact zft _ (zft _ h));split;·{rw[hrest t ht,fin,zP _ _ _ (by rw[hkeys];exact no1)]};rw[hrest t ht,fin,zP _ _ _ (by rw[hkeys];exact no)]};·{split;·{exact(hfree' ht _ hnod1).symm};exact(hfree' ht _ hnod).symm};·{split;·{rw[hval' v (zfp _ hv) vals hv hnod1,hs]};rw[hval' v (zfp _ hv) _ (zfp _ hv) hnod,hs]};·{rw[if_neg (by rw[he];exact zfv),hval' v (zft _ hv) _ (zft _ hv) hnod,hs]};rw[if_pos he,hs,fin,zP _ _ _ (by rw[hkeys];exact hlatefree t ht)]};have hslotE:∀(a':Act),a'.tmps.size=a.tmps.size→(∀t,t∉Xq ops→slot a' t=slot a t)→∀t,(t∉Xq ops∨t∈free∨∃v,(t,v)∈vals++late∧slot a' t=v)→slot a' t=slot (fin a (vals++late) free (slot a')) t:=by{intro a' hsz hrest t ht;rcases ht with ht|ht|⟨v,hv,hs⟩;·{rw[hrest t ht,fin,zP];rw[hkeys];intro hm;exact ht (hk1 t hm).2};·{rw[fin,yS _ t (slot a' t) a (by rw[hn];exact(hk1 t (zft _ ht)).1) (by rw[hkeys];exact hnod) (zft _ (ze9.2 ⟨t,ht,rfl⟩))]};rw[hs,fin,yS _ t v a (by rw[hn];exact(hk1 t (zfp _ (ze9.2 ⟨_,hv,rfl⟩))).1) (by rw[hkeys];exact hnod) (zfp _ hv)]};have hallOk:ok ops (xD ops sf) (ZW ops) (xZ ops late early)=true:=by{refine zeY.2 fun i hi=>?_;have hlt:=zeZ.1 hi;rw[ze8 hlt];obtain⟨h1,h2,h3⟩:=hopi i ops[i] (ze8 hlt);simp only[UL,ze4,zeY,ze6,ze5,ze7,beq_iff_eq];have hold:∀t∈xZ ops late early i,∀k∈List.range ops.size,(match ops[k]? with|some ok=>ok.dst !=some t||(zN ok).contains i|none=>true)=true:=by{have:=hop i (zeZ.2 hlt);rw[ze8 hlt]at this;simp only[ze4,zeY]at this;exact this.1.1.2};refine⟨⟨⟨hold,h1⟩,fun j hj=>⟨j,by simpa[ZW,hlt]using hj,.inl rfl⟩⟩,fun k hk=>?_⟩;have hklt:=zeZ.1 hk;rw[ze8 hklt];cases hd:ops[k].dst with|none=>simp[hd]|some d=>simp only[zfi,hd,ze7,zfj,beq_iff_eq,zfd];by_cases hm:d∈xD ops sf i;·{have uniq:∀j,(ops[j]?).bind (·.dst)=some d→j=k:=by{intro j hj;cases hoj:ops[j]? with|none=>rw[hoj]at hj;(cases hj)|some oj=>rw[hoj]at hj;have hjlt:j<ops.size:=(zeX.1 hoj).1;have key:∀(l:List Oper)(x y:Nat)(ox oy:Oper),(l.filterMap (·.dst)).Nodup→l[x]?=some ox→l[y]?=some oy→ox.dst=some d→oy.dst=some d→x=y:=by{intro l;induction l with|nil=>intro x y ox oy _ hx;simp at hx|cons z l ih=>intro x y ox oy hnn hx hy hdx hdy;have hl:(l.filterMap (·.dst)).Nodup:=by{cases hz:z.dst with|none=>simpa[List.filterMap_cons,hz]using hnn|some dz=>rw[zfw (h:=hz)]at hnn;exact(zfo.1 hnn).2};have hz0:z.dst=some d→d∉l.filterMap (·.dst):=fun hz=>by{rw[zfw (h:=hz)]at hnn;exact(zfo.1 hnn).1};cases x with|zero=>(cases y with|zero=>rfl|succ y=>simp at hx hy;subst hx;exact absurd (ze3.2 ⟨oy,zfx hy,hdy⟩) (hz0 hdx))|succ x=>cases y with|zero=>simp at hx hy;subst hy;exact absurd (ze3.2 ⟨ox,zfx hx,hdx⟩) (hz0 hdy)|succ y=>simp at hx hy;rw[ih x y ox oy hl hx hy hdx hdy]};exact key ops.toList j k oj ops[k] hdn (by simpa using hoj) (by simp[hklt]) (by simpa using hj) hd};unfold xD at hm;rw[ze8 hlt]at hm;rcases zfu.1 hm with hm|hm;·{left;right;have:ops[i].dst=some d:=by{simpa using hm};exact(uniq i (by rw[ze8 hlt];simpa using this)).symm};rcases(h3 d hm).2 with h|⟨j,hj,hjd⟩;·{left;right;exact(uniq i (by rw[ze8 hlt];simpa using h)).symm};right;have:=uniq j hjd;subst this;simpa[ZW,hlt]using hj};left;left;simpa using hm};have hfree:∀(d:Tmp)(v:Value),(d,v)∈vals++late→d∉free:=by{intro d v hv hf;have:=(zfs.1 hnod).2.2 d (ze9.2 ⟨_,hv,rfl⟩) d hf;exact this rfl};refine wp_region_facts hm (xD ops sf) (ZW ops) (xZ ops late early) (yM ops (vals++late) p) hallOk B ?_ ?_;·{intro i o hi a' w' hsz hrest hold hB hdeps;obtain⟨h1,h2,h3⟩:=hopi i o hi;have hilt:i<ops.size:=(zeX.1 hi).1;have hdepsi:ZW ops i=zN o:=by{simp[ZW,hi]};have toP:∀j,At (xD ops sf) (yM ops (vals++late) p) j a' w'→p j ((sf j).map (slot a')) w':=by{intro j hj;unfold At yM xD at hj;cases hd:(ops[j]?).bind (·.dst)with|none=>simpa[hd]using hj|some d=>simp only[hd]at hj;simpa using hj.2};have exact_of:∀j∈zN o,∀t v,(ops[j]?).bind (·.dst)=some t→(t,v)∈vals++late→slot a' t=v:=by{intro j hj t v hd hv;have:=hdeps j (by rw[hdepsi];exact hj);unfold At yM xD at this;simp only[hd]at this;simpa using this.1 v hv};have agree:∀t∈o.looksAt ops,slot a' t=slot (fr a vals late free early i (slot a')) t:=by{intro t ht;refine hslot i a' hsz hrest t ?_;by_cases hd:t∈Xq ops;·{right;rcases h2 t ht hd with ho|⟨j,hj,hjd⟩;·{right;right;right;have hs:=hold t ho;unfold xZ at ho;rw[hi]at ho;simp only at ho;cases he:early i with|false=>rw[he]at ho;simp at ho|true=>rw[he]at ho;simp only[if_true,zfa,zfd]at ho;exact⟨rfl,ho.2,hs⟩};have hmem:t∈(vals++late).map (·.1)++free:=hk2 t hd;rcases zfu.1 hmem with hv|hf;·{obtain⟨⟨t',v⟩,hv2,rfl⟩:=ze9.1 hv;have hs:=exact_of j hj _ v hjd hv2;rcases zfu.1 hv2 with h|h;·{exact .inr (.inl ⟨v,h,hs⟩)};cases he:early i with|false=>exact .inr (.inr (.inl ⟨rfl,v,h,hs⟩))|true=>exfalso;have hol:t'∈xZ ops late early i:=by{unfold xZ;rw[hi];simp only[he,if_true,zfa,zfd];exact⟨ht,ze9.2 ⟨_,h,rfl⟩⟩};have hjlt:j<ops.size:=by{have:=h1 j hj;omega};have:=hop i (zeZ.2 hilt);rw[hi]at this;simp only[ze4,zeY]at this;have hw:=this.1.1.2 t' hol j (zeZ.2 hjlt);rw[ze8 hjlt]at hw hjd;simp only[zfi]at hjd;simp only[hjd,bne_self_eq_false,zfc,zfd]at hw;have a1:=(hopi j ops[j] (ze8 hjlt)).1 i hw;have a2:=h1 j hj;omega};exact .inl hf};exact .inl hd};have agreeF:∀j,(sf j).map (slot (fr a vals late free early i (slot a')))=(sf j).map (slot a')∨j≥ops.size:=by{intro j;rcases ze1 j ops.size with hj|hj;·{left;refine ze0 fun t ht=>?_;obtain⟨_,_,h3⟩:=hopi j ops[j] (ze8 hj);exact(hslot i a' hsz hrest t (.inr (.inl (h3 t ht).1))).symm};exact .inr hj};have agreeL:∀j,j<ops.size→(sf j).map (slot (fr a vals late free early i (slot a')))=(sf j).map (slot a'):=fun j hj=>(agreeF j).resolve_right (by omega);have hD:=hstep i o hi (slot a') w' hB (fun j hj=>by have hjlt:j<ops.size:=by{have:=h1 j hj;omega};rw[agreeL j hjlt];exact toP j (hdeps j (by rw[hdepsi];exact hj)));have finish:∀(v:Value)(w'':World),(∀d u,o.dst=some d→(d,u)∈vals++late→v=u)→p i ((sf i).map (slot ((fr a vals late free early i (slot a')).put o.dst v))) w''→Below B w' w''→(∀j,j≠i→j<ops.size→p j ((sf j).map (slot (fr a vals late free early i (slot a')))) w'→p j ((sf j).map (slot (fr a vals late free early i (slot a')))) w'')→∃v',a'.put o.dst v=a'.put o.dst v'∧At (xD ops sf) (yM ops (vals++late) p) i (a'.put o.dst v) w''∧Below B w' w''∧∀j,j≠i→j<ops.size→At (xD ops sf) (yM ops (vals++late) p) j a' w'→At (xD ops sf) (yM ops (vals++late) p) j a' w'':=by{intro v w'' hex hp hb hkeep;have hput:(sf i).map (slot (a'.put o.dst v))=(sf i).map (slot ((fr a vals late free early i (slot a')).put o.dst v)):=by{refine ze0 fun t ht=>?_;by_cases hd:o.dst=some t;·{have htlt:t<n:=(hk1 t (zft _ (h3 t ht).1)).1;rw[hd,zy _ _ _ (by rw[hsz,hn];exact htlt),zy _ _ _ (by rw[Yc,hn];exact htlt)]};rw[yG _ _ _ _ hd,yG _ _ _ _ hd];exact hslot i a' hsz hrest t (.inr (.inl (h3 t ht).1))};refine⟨v,rfl,?_,hb,fun j hji hj hat=>?_⟩;·{unfold At yM xD;simp only[hi,zfi];cases hd:o.dst with|none=>rw[hd]at hp hput;simp only[zfy,zfz];rw[hput];exact hp|some d=>rw[hd]at hp hput;simp only[zfA,zfB,zfz,zfm,zfC,List.tail_cons];refine⟨fun u hu=>?_,by rw[hput];exact hp⟩;have hdlt:d<n:=(hk1 d (zfp _ (ze9.2 ⟨_,hu,rfl⟩))).1;rw[zy _ _ _ (by rw[hsz,hn];exact hdlt),hex d u hd hu]};have hpj:=toP j hat;have hnew:=hkeep j hji hj (by rw[agreeL j hj];exact hpj);rw[agreeL j hj]at hnew;unfold At yM xD at hat⊢;cases hd:(ops[j]?).bind (·.dst)with|none=>simp only[hd,zfy,zfz]at hat⊢;exact hnew|some d=>simp only[hd]at hat⊢;exact⟨hat.1,by simpa using hnew⟩};have hsel:∀cs b,o.op≠ .select cs b:=fun cs b=>Region.noSelect_spec hs i o cs b hi;unfold wpOp;simp only[hi];unfold Does at hD;rw[←XO o a' (fr a vals late free early i (slot a')) (by rw[Yc,hsz]) agree]at hD;split;·{rename_i hw;rw[if_pos hw]at hD;left;unfold Oper.wp at hD⊢;rw[←Vz o hsel a' _ agree]at hD;refine Yo (F:=fr a vals late free early i (slot a')) ?_ ?_ hD;·{rintro v w''⟨v',he,hex,hp,hb,hkeep⟩;cases hd:o.dst with|none=>rw[hd]at he hp hex;have:=finish v w'' (by rw[hd];exact fun d u h=>by cases h) (by rw[hd];exact hp) hb hkeep;rw[hd]at this;exact this|some d=>rw[hd]at he hp;have hdlt:d<n:=(hk1 d (hk2 d (ze3.2 ⟨o,by have:=Array.mem_of_getElem? hi;simpa using this,hd⟩))).1;have hvv:v=v':=by{have h1:slot ((fr a vals late free early i (slot a')).put (some d) v) d=slot ((fr a vals late free early i (slot a')).put (some d) v') d:=congrArg (fun x=>slot x d) he;rwa[zy _ _ _ (by rw[Yc,hn];exact hdlt),zy _ _ _ (by rw[Yc,hn];exact hdlt)]at h1};subst hvv;have:=finish v w'' hex (by rw[hd];exact hp) hb hkeep;rw[hd]at this;exact this};rintro d w''⟨v,he,_⟩;have h1:=congrArg (fun x=>x.defers.length) he;simp only[xK,zfD]at h1;omega};rename_i hw;rw[if_neg (by simpa using hw)]at hD;exact finish undef w' hD.1 hD.2 (zfk _ _) (fun _ _ _ h=>h)};intro a' w' hdf hsz hrest hB hall;have hfin:a'=fin a (vals++late) free (slot a'):=by{have ht:a'.tmps=(fin a (vals++late) free (slot a')).tmps:=by{refine Array.ext (by rw[fin,Zj,hsz]) fun t h1 h2=>?_;have hs:=hslotE a' hsz hrest t (by by_cases hd:t∈Xq ops;·{right;have hmem:t∈(vals++late).map (·.1)++free:=hk2 t hd;rcases zfu.1 hmem with hv|hf;·{right;obtain⟨⟨t',v⟩,hv2,rfl⟩:=ze9.1 hv;obtain⟨o,ho,hod⟩:=ze3.1 hd;obtain⟨i,hi,hoi⟩:=List.mem_iff_getElem.1 ho;have hi':i<ops.size:=by{simpa using hi};have:=hall i hi';unfold At yM xD at this;have hio:ops[i]?=some o:=by{rw[ze8 hi'];simpa using hoi};simp only[hio,zfi,hod]at this;exact⟨v,hv2,by simpa using this.1 v hv2⟩};exact .inl hf};exact .inl hd);simpa[slot,h1,h2]using hs};have hd:a'.defers=(fin a (vals++late) free (slot a')).defers:=by{rw[hdf,fin,Y2]};obtain⟨x,y⟩:=a';simp only at ht hd;cases hF:fin a (vals++late) free (slot ⟨x,y⟩)with|mk x' y'=>rw[hF]at ht hd;simp only at ht hd;rw[ht,hd]};have hq:=hend (slot a') w' hB (fun i hi=>by have:=hall i hi;rw[←hfin];unfold At yM xD at this;cases hd:(ops[i]?).bind (·.dst)with|none=>simpa[hd]using this|some d=>simp only[hd]at this;simpa using this.2);rw[←hfin]at hq;exact hq
def zcb(f:Nat→Oper→Prop):Nat→List Oper→Prop|_,[]=>True|i,o::l=>f i o∧zcb f (i+1) l
theorem TX{f:Nat→Oper→Prop}:∀(l:List Oper)(k i:Nat)(o:Oper),zcb f k l→l[i]?=some o→f (k+i) o|[],_,_,_,_,h=>by simp at h|x::l,k,0,o,h,he=>by simp at he;subst he;exact h.1|x::l,k,i+1,o,h,he=>by have:=TX l (k+1) i o h.2 (by simpa using he);rwa[zfE,Nat.add_comm 1 i]at this
theorem SP(F:Act)(d:Tmp)(v:Value)(h:d<F.tmps.size)(e:F.put (some d) v=F):slot F d=v:=by rw[←e,zy _ _ _ h]
def V6(P:Program)(ops:Array Oper)(E F:Act)(o:Oper)(w:World):Prop:=if Region.wanted o (yielded ops E.tmps)=true then Oper.wp P o E w (fun a' w'=>∃v,a'=E.put o.dst v∧F.put o.dst v=F∧Below w.heap.size w w') (fun _ _ _=>False)else F.put o.dst undef=F
theorem Vo{id:Nat}{a:Act}{w:World}(hm:P.follows .mixedOrders=true)(hs:Region.noSelect ops=true)(vals late:List (Tmp×Value))(early:Nat→Bool)(n:Nat)(hn:a.tmps.size=n)(hok:Nq ops n vals late [] (fun _=>[]) early=true)(hstep:∀E F:Act,E=putAll a vals→F=putAll a (vals++late)→∀w',Below w.heap.size w w'→zcb (fun i o=>V6 P ops (if early i then E else F) F o w') 0 ops.toList)(hend:∀w',Below w.heap.size w w'→Q .normal (putAll a (vals++late)) w'):(Code.region id ops true).wp P Q a w:=by have hfin:∀g l,fin a l [] g=putAll a l:=fun g l=>by{simp[fin]};have hok':=hok;simp only[Nq,ze4,zeY,ze6,zfd,zfF]at hok;obtain⟨⟨⟨⟨hk1,hk2⟩,hnod⟩,hdn⟩,hop⟩:=hok;refine wp_region_run hm hs vals late [] (fun _=>[]) early (fun _ _ _=>True) n hn hok' w.heap.size ?_ ?_;·{intro i o hi g w' hB _;have hD:=TX ops.toList 0 i o (hstep _ _ rfl rfl w' hB) (by simpa using hi);have hfr:fr a vals late [] early i g=if early i then putAll a vals else putAll a (vals++late):=by{unfold fr;rw[hfin,hfin]};rw[hfr];rw[zfG]at hD;have hex:∀(v:Value),(putAll a (vals++late)).put o.dst v=putAll a (vals++late)→∀d u,o.dst=some d→(d,u)∈vals++late→v=u:=by{intro v hv d u hd hu;have hdlt:d<n:=(hk1 d (ze9.2 ⟨_,hu,rfl⟩)).1;rw[hd]at hv;have h1:=SP _ d v (by rw[Zj,hn];exact hdlt) hv;rw[←h1,yS (vals++late) d u a (by rw[hn];exact hdlt) hnod hu]};generalize(if early i=true then putAll a vals else putAll a (vals++late))=E at hD⊢;unfold V6 at hD;unfold Does;split;·{rename_i hw;rw[if_pos hw]at hD;unfold Oper.wp at hD⊢;refine Yo (F:=E) ?_ ?_ hD;·{rintro v w''⟨v',he,hF,hb⟩;refine⟨v',he,hex v' hF,trivial,hb.mono (by have:=hB.size;omega),fun _ _ _ h=>h⟩};rintro d w''⟨v,he,_⟩;have h1:=congrArg (fun x=>x.defers.length) he;simp only[xK,zfD]at h1;omega};rename_i hw;rw[if_neg hw]at hD;exact⟨hex undef hD,trivial⟩};intro g w' hB _;rw[hfin];exact hend w' hB
theorem wp_region_vals{id:Nat}{a:Act}{w:World}(hm:P.follows .mixedOrders=true)(hs:Region.noSelect ops=true)(vals:List (Tmp×Value))(n:Nat)(hn:a.tmps.size=n)(hok:Nq ops n vals [] [] (fun _=>[]) (fun _=>false)=true)(hstep:∀F:Act,F=putAll a vals→∀w',Below w.heap.size w w'→zcb (fun _ o=>V6 P ops F F o w') 0 ops.toList)(hend:∀w',Below w.heap.size w w'→Q .normal (putAll a vals) w'):(Code.region id ops true).wp P Q a w:=by refine Vo hm hs vals [] (fun _=>false) n hn hok ?_ ?_;·{intro E F _ hF w' hB;rw[zfF]at hF;exact hstep F hF w' hB};intro w' hB;rw[zfF];exact hend w' hB
theorem doesV_val{E F:Act}{o:Oper}{w:World}{v:Value}(hr:(execOp E.eval o).run P w= .ok (.value v) w)(hw:Region.wanted o (yielded ops E.tmps)=true)(hF:F.put o.dst v=F):V6 P ops E F o w:=by unfold V6;rw[if_pos hw];unfold Oper.wp;rw[hr];exact⟨v,rfl,hF,zfk _ _⟩
theorem doesV_skip{E F:Act}{o:Oper}{w:World}(hw:Region.wanted o (yielded ops E.tmps)=false)(hF:F.put o.dst undef=F):V6 P ops E F o w:=by unfold V6;rw[if_neg (by rw[hw];exact zfv)];exact hF
theorem doesV_call{E F:Act}{o:Oper}{w:World}{v:Value}{f:FuncId}{args:Array Value}(hc:Calls P f args w fun e w'=>e= .returned v∧Below w.heap.size w w')(hr:(execOp E.eval o).run P w= .ok (.enter f args) w)(hw:Region.wanted o (yielded ops E.tmps)=true)(hF:F.put o.dst v=F):V6 P ops E F o w:=by unfold V6;rw[if_pos hw];unfold Oper.wp;rw[hr];refine Calls.mono hc ?_;rintro e w'⟨rfl,hb⟩;exact⟨v,rfl,hF,hb⟩
end
end Reg
structure Val where
 k : Int
 n : Int
 s : ByteArray
abbrev emp:ByteArray:=⟨#[]⟩
abbrev Val.v(a:Val):Value:= .agg #[.int .i64 a.k,.int .i64 a.n,.string a.s]
def Val.eq(a b:Val):Bool:=decide (a.k=b.k)&&(decide (a.n=b.n)&&decide (a.s.toList=b.s.toList))
theorem zt{a b:ByteArray}(h:a.toList=b.toList):a=b:=by rw[zfH,zfH]at h;obtain⟨⟨x⟩⟩:=a;obtain⟨⟨y⟩⟩:=b;simp at h;rw[h]
theorem Val.eq_iff{a b:Val}:a.eq b=true↔a=b:=by obtain⟨k,n,s⟩:=a;obtain⟨k',n',s'⟩:=b;simp only[Val.eq,ze4,ze6,Val.mk.injEq];constructor;·{rintro⟨h1,h2,h3⟩;exact⟨h1,h2,zt h3⟩};rintro⟨h1,h2,h3⟩;exact⟨h1,h2,by rw[h3]⟩
theorem Val.eq_self(a:Val):a.eq a=true:=Val.eq_iff.2 rfl
theorem Val.eq_false{a b:Val}(h:a≠b):a.eq b=false:=by cases e:a.eq b;·{rfl};exact absurd (Val.eq_iff.1 e) h
def tt:Val:=⟨1,1,emp⟩
def ff:Val:=⟨1,0,emp⟩
def nl:Val:=⟨0,0,emp⟩
def tv(b:Bool):Val:=if b then tt else ff
def iv(n:Int):Val:=⟨2,n,emp⟩
theorem SQ(w:World)(k n k' n':Int)(s s':ByteArray):(Op.equalIn 10000 80 (.agg #[.int .i64 k,.int .i64 n,.string s]) (.agg #[.int .i64 k',.int .i64 n',.string s'])).run Tryz.prog w= .ok (Val.eq ⟨k,n,s⟩ ⟨k',n',s'⟩) w:=by simp[go_sem,Tryz.underlying80,Tryz.underlying3,Tryz.underlying9];by_cases h1:k=k'<;>by_cases h2:n=n'<;>by_cases h3:s.toList=s'.toList<;>simp[Val.eq,h1,h2,h3]
theorem TY(w:World)(k n k' n':Int)(s s':ByteArray):(binOp .eql 80 (.agg #[.int .i64 k,.int .i64 n,.string s]) (.agg #[.int .i64 k',.int .i64 n',.string s'])).run Tryz.prog w= .ok (.bool (Val.eq ⟨k,n,s⟩ ⟨k',n',s'⟩)) w:=by rw[run_eql_struct,SQ];rfl
theorem TZ(w:World)(k n k' n':Int)(s s':ByteArray):(binOp .neq 80 (.agg #[.int .i64 k,.int .i64 n,.string s]) (.agg #[.int .i64 k',.int .i64 n',.string s'])).run Tryz.prog w= .ok (.bool !(Val.eq ⟨k,n,s⟩ ⟨k',n',s'⟩)) w:=by rw[run_neq_struct,SQ];rfl
theorem mixed:Tryz.prog.follows .mixedOrders=true:=by kernel_rfl
def Bx(w:World)(b:Nat)(a:Val):Prop:=w.heap[b]?=some (.cells #[.int .i64 a.k,.int .i64 a.n,.string a.s] 80 (0,0))
theorem Bx.cell0{w:World}{b:Nat}{a:Val}(h:Bx w b a):w.cell? ⟨b,0,none⟩=some (.int .i64 a.k):=by unfold Bx at h;simp[World.cell?,h]
theorem Bx.cell1{w:World}{b:Nat}{a:Val}(h:Bx w b a):w.cell? ⟨b,1,none⟩=some (.int .i64 a.n):=by unfold Bx at h;simp[World.cell?,h]
theorem Bx.cell2{w:World}{b:Nat}{a:Val}(h:Bx w b a):w.cell? ⟨b,2,none⟩=some (.string a.s):=by unfold Bx at h;simp[World.cell?,h]
theorem Bx.lt{w:World}{b:Nat}{a:Val}(h:Bx w b a):b<w.heap.size:=by rcases ze1 b w.heap.size with hlt|hge;·{exact hlt};unfold Bx at h;rw[ze2 hge]at h;cases h
theorem Bx.below{w w':World}{b B:Nat}{a:Val}(h:Bx w b a)(hb:Below B w w')(hlt:b<B):Bx w' b a:=(hb.block b hlt).trans h
theorem Bx.after{w w':World}{b:Nat}{a:Val}(h:Bx w b a)(hb:Below w.heap.size w w'):Bx w' b a:=h.below hb h.lt
theorem Bx.new(w:World)(a:Val):Bx (w.alloc (.cells #[.int .i64 a.k,.int .i64 a.n,.string a.s] 80)) w.heap.size a:=by show(w.heap.push _)[w.heap.size]?=_;simp
theorem Bx.alloc{w:World}{b:Nat}{a:Val}(h:Bx w b a)(o:Obj):Bx (w.alloc o) b a:=(zfI w o b h.lt).trans h
theorem Bx.load{w:World}{b:Nat}{a:Val}(h:Bx w b a):(Instr.loadAt 80 (.pointer (some ⟨b,0,none⟩))).run Tryz.prog w= .ok a.v w:=by have h0:=h.cell0;have h1:=h.cell1;have h2:=h.cell2;go_simp
theorem zo{P:Program}{F:Act}{w:World}{x:Operand}{o:Oper}(ho:o.op= .move x):(execOp F.eval o).run P w= .ok (.value (F.eval x)) w:=by simp[execOp,ho]
theorem Zz{P:Program}{F:Act}{w:World}{x:Operand}{o:Oper}(ho:o.op= .assign x):(execOp F.eval o).run P w= .ok (.value (F.eval x)) w:=by simp[execOp,ho]
theorem zr{P:Program}{F:Act}{w:World}{t:Tmp}{x y:Operand}{o:Oper}(b:Bool)(ho:o.op= .pick (.tmp t) x y)(ht:Reg.slot F t= .bool b):(execOp F.eval o).run P w= .ok (.value (if b then F.eval x else F.eval y)) w:=by have e:F.eval (.tmp t)= .bool b:=ht;simp only[execOp,ho,e];cases b<;>simp[asBool]
theorem xh{F:Act}{w:World}{b:Nat}{a:Val}{t:Tmp}{o:Oper}(h:Bx w b a)(ho:o.op= .load 80 (.tmp t))(ht:Reg.slot F t= .pointer (some ⟨b,0,none⟩)):(execOp F.eval o).run Tryz.prog w= .ok (.value a.v) w:=by have e:F.eval (.tmp t)= .pointer (some ⟨b,0,none⟩):=ht;simp[execOp,ho,e,h.load]
theorem ya{F:Act}{w:World}{f:FuncId}{args:Array Operand}{ats:Array TypeId}{vs:Array Value}{o:Oper}(hE:∀args w,(callFunc f args).run Tryz.prog w= .ok (.enter f args) w)(ho:o.op= .call {callee:= .value (.func f),args:=args,argTypes:=ats})(hv:args.map F.eval=vs):(execOp F.eval o).run Tryz.prog w= .ok (.enter f vs) w:=by have h:=hE (args.map F.eval) w;subst hv;simp[execOp,ho,resolve,go_sem,h]
theorem Bx.frozen{w:World}{b:Nat}{a:Val}(h:Bx w b a)(i:Nat):w.frozen? ⟨b,i,none⟩=false:=by unfold Bx at h;simp[World.frozen?,h]
theorem Bx.new1(w:World)(a:Val)(o:Obj):Bx ((w.alloc o).alloc (.cells #[.int .i64 a.k,.int .i64 a.n,.string a.s] 80)) (w.heap.size+1) a:=by have:=Bx.new (w.alloc o) a;simpa using this
def zdP(w:World)(b:Nat)(a:Val):World:=((w.setCell ⟨b,0,none⟩ (.int .i64 a.k)).setCell ⟨b,1,none⟩ (.int .i64 a.n)).setCell ⟨b,2,none⟩ (.string a.s)
theorem Bx.put{w:World}{b:Nat}{x:Val}(h:Bx w b x)(a:Val):Bx (zdP w b a) b a:=by unfold Bx at h;simp[Bx,zdP,World.setCell,zfJ,h]
theorem zI{B:Nat}{w0 w:World}{b:Nat}(h:Below B w0 w)(hb:B≤b)(a:Val):Below B w0 (zdP w b a):=((h.setCell hb _).setCell hb _).setCell hb _
theorem zb(w:World)(o:Obj):Below w.heap.size w (w.alloc o):=(zfk _ _).alloc (zfb _) _
theorem xi(w:World)(o o':Obj):Below w.heap.size w ((w.alloc o).alloc o'):=(zb _ _).alloc (by simp) _
theorem Yp{P:Program}{F:Act}{w:World}{t:Tmp}{k:Nat}{vs:Array Value}{v:Value}{o:Oper}(ho:o.op= .extract (.tmp t) k)(ht:Reg.slot F t= .tuple vs)(hv:vs[k]?=some v):(execOp F.eval o).run P w= .ok (.value v) w:=by have e1:F.eval (.tmp t)= .tuple vs:=ht;simp only[execOp,ho,e1,zfK,Instr.extract,hv,zfL,zfM]
theorem Ww{P:Program}{F:Act}{w:World}{t:Tmp}{ty:TypeId}{o:Oper}(b:Bool)(ho:o.op= .unOp .not ty (.tmp t))(ht:Reg.slot F t= .bool b):(execOp F.eval o).run P w= .ok (.value (.bool !b)) w:=by have e1:F.eval (.tmp t)= .bool b:=ht;simp[execOp,ho,e1,Op.unary]
def Xp(x:Val):Bool:=if x.k==0 then x.n==0&&x.s.toList.isEmpty else if x.k==1 then(x.n==0||x.n==1)&&x.s.toList.isEmpty else if x.k==2 then x.s.toList.isEmpty else if x.k==3 then x.n==0&&decide (x.s.size≤1000)else false
def T0(x:Val):Prop:=(x.k=0∧x.n=0∧x.s=emp)∨(x.k=1∧(x.n=0∨x.n=1)∧x.s=emp)∨(x.k=2∧x.s=emp)∨(x.k=3∧x.n=0∧x.s.size≤1000)
def rmB(x:Val):Bool:=if x.k==0||x.k==1 then x.s.toList.isEmpty&&decide (0≤x.n)&&decide (x.n≤x.k)else if x.k==2 then x.s.toList.isEmpty else x.k==3&&x.n==0&&decide (x.s.size≤1000)
theorem Wx{s:ByteArray}(h:s.toList.isEmpty=true):s=emp:=by rw[zfH]at h;obtain⟨⟨l⟩⟩:=s;simp at h;rw[h]
theorem Nr(x:Val)(h:rmB x=true):T0 x:=by unfold rmB at h;unfold T0;by_cases h01:x.k=0∨x.k=1;·{have e:(x.k==0||x.k==1)=true:=by{simpa using h01};rw[e]at h;simp only[if_true,ze4,ze6]at h;have hs:=Wx h.1.1;rcases h01 with hk|hk;·{exact .inl ⟨hk,by omega,hs⟩};exact .inr (.inl ⟨hk,by omega,hs⟩)};have e:(x.k==0||x.k==1)=false:=by{simpa using h01};rw[e]at h;simp only[zfg,if_false]at h;by_cases h2:x.k=2;·{have e2:(x.k==2)=true:=by{simpa using h2};rw[e2]at h;exact .inr (.inr (.inl ⟨h2,Wx h⟩))};have e2:(x.k==2)=false:=by{simpa using h2};rw[e2]at h;simp only[zfg,if_false,ze4,beq_iff_eq,ze6]at h;exact .inr (.inr (.inr ⟨h.1.1,h.1.2,h.2⟩))
theorem T3(x:Val)(h:T0 x):rmB x=true:=by rcases h with⟨hk,hn,hs⟩|⟨hk,hn,hs⟩|⟨hk,hs⟩|⟨hk,hn,hs⟩;·{simp[rmB,hk,hn,hs]};·{rcases hn with hn|hn<;>simp[rmB,hk,hn,hs]};·{simp[rmB,hk,hs]};simp[rmB,hk,hn,hs]
theorem zcc(x:Val):rmB x=true↔T0 x:=⟨Nr x,T3 x⟩
theorem UO(x:Val)(h:T0 x):Xp x=true:=by rcases h with⟨hk,hn,hs⟩|⟨hk,hn,hs⟩|⟨hk,hs⟩|⟨hk,hn,hs⟩;·{simp[Xp,hk,hn,hs]};·{rcases hn with hn|hn<;>simp[Xp,hk,hn,hs]};·{simp[Xp,hk,hs]};simp[Xp,hk,hn,hs]
theorem Yd(x:Val)(h:Xp x=true):T0 x:=by unfold Xp at h;by_cases h0:x.k=0;·{simp only[h0,beq_self_eq_true,if_true,ze4,beq_iff_eq]at h;exact .inl ⟨h0,h.1,Wx h.2⟩};by_cases h1:x.k=1;·{simp[h1]at h;exact .inr (.inl ⟨h1,h.1,Wx (by simpa using h.2)⟩)};by_cases h2:x.k=2;·{simp[h2]at h;exact .inr (.inr (.inl ⟨h2,Wx (by simpa using h)⟩))};by_cases h3:x.k=3;·{simp[h3]at h;exact .inr (.inr (.inr ⟨h3,h⟩))};simp[h0,h1,h2,h3]at h
theorem L0(x:Val):Xp x=true↔T0 x:=⟨Yd x,UO x⟩
theorem zcd(x:Val):Xp x=rmB x:=by rw[zfN,L0,zcc]
theorem Ns(x:Val)(w:World)(h:(x.k==0)=true):Calls Tryz.prog 162 #[x.v] w fun e w'=>e= .returned (.bool (x.n==0&&x.s.toList.isEmpty))∧Below w.heap.size w w':=by cases hn:x.n==0;all_goals go_enter Tryz.func162,Tryz.ntmps162;go_wp2;go_ret;exact⟨rfl,zb _ _⟩
theorem Nt(x:Val)(w:World)(h0:(x.k==0)=false)(h:(x.k==1)=true):Calls Tryz.prog 162 #[x.v] w fun e w'=>e= .returned (.bool ((x.n==0||x.n==1)&&x.s.toList.isEmpty))∧Below w.heap.size w w':=by cases hn:x.n==0;·{cases hn1:x.n==1;all_goals go_enter Tryz.func162,Tryz.ntmps162;go_wp2;go_ret;exact⟨rfl,zb _ _⟩};go_enter Tryz.func162,Tryz.ntmps162;go_wp2;go_ret;exact⟨rfl,zb _ _⟩
theorem L3(x:Val)(w:World)(h0:(x.k==0)=false)(h1:(x.k==1)=false)(h:(x.k==2)=true):Calls Tryz.prog 162 #[x.v] w fun e w'=>e= .returned (.bool x.s.toList.isEmpty)∧Below w.heap.size w w':=by go_enter Tryz.func162,Tryz.ntmps162;go_wp2;go_ret;exact⟨rfl,zb _ _⟩
theorem Nu(x:Val)(w:World)(h0:(x.k==0)=false)(h1:(x.k==1)=false)(h2:(x.k==2)=false)(h:(x.k==3)=true)(hs:x.s.size≤maxLen):Calls Tryz.prog 162 #[x.v] w fun e w'=>e= .returned (.bool (x.n==0&&decide (x.s.size≤1000)))∧Below w.heap.size w w':=by unfold maxLen at hs;cases hn:x.n==0;·{go_enter Tryz.func162,Tryz.ntmps162;go_wp2;go_ret;exact⟨rfl,zb _ _⟩};by_cases hz:x.s.size≤1000;·{have hz':decide (x.s.size≤1000)=true:=zfO hz;have hz2:decide ((x.s.size:Int)≤1000)=true:=zfO (by omega);go_enter Tryz.func162,Tryz.ntmps162;go_wp2;go_ret;exact⟨by rw[hz'];rfl,zb _ _⟩};have hz':decide (x.s.size≤1000)=false:=zfP hz;have hz2:decide ((x.s.size:Int)≤1000)=false:=zfP (by omega);go_enter Tryz.func162,Tryz.ntmps162;go_wp2;go_ret;exact⟨by rw[hz'];rfl,zb _ _⟩
theorem QV(x:Val)(w:World)(h0:(x.k==0)=false)(h1:(x.k==1)=false)(h2:(x.k==2)=false)(h3:(x.k==3)=false):Calls Tryz.prog 162 #[x.v] w fun e w'=>e= .returned (.bool false)∧Below w.heap.size w w':=by go_enter Tryz.func162,Tryz.ntmps162;go_wp2;go_ret;exact⟨rfl,zb _ _⟩
theorem zce(x:Val)(w:World)(hs:x.s.size≤maxLen):Calls Tryz.prog 162 #[x.v] w fun e w'=>e= .returned (.bool (Xp x))∧Below w.heap.size w w':=by unfold Xp;cases h0:x.k==0;·{cases h1:x.k==1;·{cases h2:x.k==2;·{cases h3:x.k==3;·{exact QV x w h0 h1 h2 h3};exact Nu x w h0 h1 h2 h3 hs};exact L3 x w h0 h1 h2};exact Nt x w h0 h1};exact Ns x w h0
theorem SR(x:Val)(w:World)(h:(x.k==0)=true∨((x.k==0)=false∧(x.k==1)=true)):Calls Tryz.prog 102 #[x.v] w fun e w'=>e= .returned (.bool (x.s.toList.isEmpty&&decide (0≤x.n)&&decide (x.n≤x.k)))∧Below w.heap.size w w':=by rcases h with h|⟨h0,h⟩;all_goals cases hs:x.s.toList.isEmpty;·{go_enter Tryz.func102,Tryz.ntmps102;go_wp2;go_ret;exact⟨rfl,zb _ _⟩};cases hn:decide (0≤x.n);·{go_enter Tryz.func102,Tryz.ntmps102;go_wp2;go_ret;exact⟨rfl,zb _ _⟩};go_enter Tryz.func102,Tryz.ntmps102;go_wp2;go_ret;exact⟨rfl,zb _ _⟩
theorem Nv(x:Val)(w:World)(h0:(x.k==0)=false)(h1:(x.k==1)=false)(h:(x.k==2)=true):Calls Tryz.prog 102 #[x.v] w fun e w'=>e= .returned (.bool x.s.toList.isEmpty)∧Below w.heap.size w w':=by go_enter Tryz.func102,Tryz.ntmps102;go_wp2;go_ret;exact⟨rfl,zb _ _⟩
theorem QW(x:Val)(w:World)(h0:(x.k==0)=false)(h1:(x.k==1)=false)(h2:(x.k==2)=false)(hs:x.s.size≤maxLen):Calls Tryz.prog 102 #[x.v] w fun e w'=>e= .returned (.bool (x.k==3&&x.n==0&&decide (x.s.size≤1000)))∧Below w.heap.size w w':=by unfold maxLen at hs;cases h3:x.k==3;·{go_enter Tryz.func102,Tryz.ntmps102;go_wp2;go_ret;exact⟨rfl,zb _ _⟩};cases hn:x.n==0;·{go_enter Tryz.func102,Tryz.ntmps102;go_wp2;go_ret;exact⟨rfl,zb _ _⟩};by_cases hz:x.s.size≤1000;·{have hz':decide (x.s.size≤1000)=true:=zfO hz;have hz2:decide ((x.s.size:Int)≤1000)=true:=zfO (by omega);go_enter Tryz.func102,Tryz.ntmps102;go_wp2;go_ret;exact⟨by rw[hz'];rfl,zb _ _⟩};have hz':decide (x.s.size≤1000)=false:=zfP hz;have hz2:decide ((x.s.size:Int)≤1000)=false:=zfP (by omega);go_enter Tryz.func102,Tryz.ntmps102;go_wp2;go_ret;exact⟨by rw[hz'];rfl,zb _ _⟩
theorem zcf(x:Val)(w:World)(hs:x.s.size≤maxLen):Calls Tryz.prog 102 #[x.v] w fun e w'=>e= .returned (.bool (rmB x))∧Below w.heap.size w w':=by unfold rmB;cases h0:x.k==0;·{cases h1:x.k==1;·{simp only[Bool.or_false,zfg,if_false];cases h2:x.k==2;·{simp only[zfg,if_false];exact QW x w h0 h1 h2 hs};simp only[if_true];exact Nv x w h0 h1 h2};simp only[Bool.or_true,if_true];exact SR x w (.inr ⟨h0,h1⟩)};simp only[Bool.true_or,if_true];exact SR x w (.inl h0)
open Go
def Ya(c:UInt8)(new:List UInt8):List UInt8→List UInt8|[]=>[]|b::l=>if b=c then new++Ya c new l else b::Ya c new l
theorem QX(c:UInt8):Lib.index [] [c]=-1:=rfl
theorem R1(c:UInt8)(l:List UInt8):Lib.index (c::l) [c]=0:=by simp[Lib.index]
theorem Wy(b c:UInt8)(l:List UInt8)(h:b≠c):Lib.index (b::l) [c]=if Lib.index l [c]==-1 then -1 else Lib.index l [c]+1:=by rw[Lib.index];have:([c].isPrefixOf (b::l))=false:=by{simp[List.isPrefixOf];exact fun e=>h e.symm};rw[this];rfl
theorem UP(c:UInt8)(new:List UInt8):∀k,Lib.replaceK [c] new k []=[]|0=>rfl|k+1=>by rw[Lib.replaceK,QX];rfl
theorem V7(c:UInt8)(new l:List UInt8)(k:Nat):Lib.replaceK [c] new (k+1) (c::l)=new++Lib.replaceK [c] new k l:=by rw[Lib.replaceK_hit [c] new k (c::l) 0 (R1 c l)];simp
theorem Vp(b c:UInt8)(new l:List UInt8)(h:b≠c):∀k,Lib.replaceK [c] new k (b::l)=b::Lib.replaceK [c] new k l|0=>rfl|k+1=>by have hge:=Lib.index_ge l [c];by_cases hm:Lib.index l [c]=-1;·{have e1:Lib.index (b::l) [c]=-1:=by{rw[Wy b c l h,hm];rfl};rw[Lib.replaceK,Lib.replaceK,e1,hm];rfl};have hne:(Lib.index l [c]==-1)=false:=by{simpa using hm};obtain⟨i,hi⟩:∃i:Nat,Lib.index l [c]=i:=⟨(Lib.index l [c]).toNat,by omega⟩;have e1:Lib.index (b::l) [c]=((i+1:Nat):Int):=by{rw[Wy b c l h,hne,hi];simp};rw[Lib.replaceK_hit [c] new k (b::l) (i+1) e1,Lib.replaceK_hit [c] new k l i hi];have e:i+1+[c].length=(i+[c].length)+1:=by{simp};rw[e,zfQ,zfR];simp
theorem ZI(c:UInt8)(new:List UInt8):∀(s:List UInt8)(k:Nat),s.count c≤k→Lib.replaceK [c] new k s=Ya c new s|[],k,_=>UP c new k|b::l,k,h=>by by_cases e:b=c;·{subst e;rw[List.count_cons_self]at h;obtain⟨k,rfl⟩:∃j,k=j+1:=⟨k-1,by omega⟩;rw[V7,ZI b new l k (by omega),Ya,if_pos rfl]};rw[List.count_cons_of_ne e]at h;rw[Vp b c new l e,ZI c new l k h,Ya,if_neg e]
theorem Wz(c:UInt8)(new s:List UInt8)(h:[c]≠new):Lib.replaceAll s [c] new=Ya c new s:=by have hne:([c]==new)=false:=by{simpa using h};unfold Lib.replaceAll Lib.replace;rw[hne];simp only[zfg,if_false];refine ZI c new s _ ?_;unfold Lib.replaceNum;rw[if_pos (.inl (by decide)),Lib.count_one];exact zfb _
theorem WA(c:UInt8)(new:List UInt8):∀s:List UInt8,(Ya c new s).length≤s.length*(new.length+1)|[]=>by simp[Ya]|b::l=>by have ih:=WA c new l;rw[Ya,zfD,zfS,Nat.one_mul];by_cases e:b=c;·{rw[if_pos e,zfT];omega};rw[if_neg e,zfD];omega
open Go
def num(l:List UInt8):Nat:=l.foldl (fun a c=>a*10+(c.toNat-48)) 0
theorem Nw(l:List UInt8)(c:UInt8):num (l++[c])=num l*10+(c.toNat-48):=by simp[num]
theorem Ye(k:Nat)(h:k<10):(UInt8.ofNat (48+k)).toNat=48+k:=by rw[UInt8.toNat_ofNat'];omega
theorem T4(u:Nat):num (Lib.decDigits u)=u:=by induction u using Nat.strongRecOn with|_ u ih=>rw[Lib.decDigits];by_cases h:u<10;·{rw[dif_pos h];simp[num];omega};rw[dif_neg h,Nw,ih (u/10) (by omega),Ye (u%10) (by omega)];omega
theorem Y3(u:Nat):∃c l,Lib.decDigits u=c::l∧48≤c.toNat∧c.toNat≤57:=by induction u using Nat.strongRecOn with|_ u ih=>rw[Lib.decDigits];by_cases h:u<10;·{rw[dif_pos h];exact⟨_,[],rfl,by rw[Ye u h];omega,by rw[Ye u h];omega⟩};rw[dif_neg h];obtain⟨c,l,hl,h1,h2⟩:=ih (u/10) (by omega);exact⟨c,l++_,by rw[hl];rfl,h1,h2⟩
def Z4(x:Val):List UInt8:=if x.k==0 then[110,117,108,108]else if x.k==1 then(if x.n==0 then[102,97,108,115,101]else[116,114,117,101])else if x.k==2 then Lib.itoa x.n else if x.k==3 then[39]++Ya 39 [39,39] x.s.data.toList++[39]else[63]
def zeW(r:List UInt8):Prop:=r=[]∨∃l,r=44::l
theorem WC(u:Nat):∀c∈Lib.decDigits u,48≤c.toNat∧c.toNat≤57:=by induction u using Nat.strongRecOn with|_ u ih=>rw[Lib.decDigits];by_cases h:u<10;·{rw[dif_pos h];intro c hc;simp only[zfU]at hc;subst hc;rw[Ye u h];omega};rw[dif_neg h];intro c hc;rcases zfu.1 hc with hc|hc;·{exact ih (u/10) (by omega) c hc};simp only[zfU]at hc;subst hc;rw[Ye (u%10) (by omega)];omega
theorem T5(c:UInt8):∀l:List UInt8,(Ya c [c,c] l).length≤2*l.length|[]=>zfb _|b::l=>by rw[Ya];have:=T5 c l;split<;>simp<;>omega
theorem T6(u:Nat)(k:Nat)(h:u<10^(k+1)):(Lib.decDigits u).length≤k+1:=by induction k generalizing u with|zero=>rw[Lib.decDigits,dif_pos (by simpa using h)];simp|succ k ih=>rw[Lib.decDigits];by_cases h10:u<10;·{rw[dif_pos h10];simp};rw[dif_neg h10];have:u/10<10^(k+1):=by{rw[Nat.pow_succ]at h;exact(Nat.div_lt_iff_lt_mul (by decide)).2 h};have:=ih (u/10) this;simp;omega
theorem yb(a:Int)(h:-9223372036854775808≤a∧a≤9223372036854775807):(Lib.itoa a).length≤21:=by unfold Lib.itoa;split;·{rw[zfD];exact Nat.succ_le_succ (T6 _ 19 (by omega))};exact zfl (T6 _ 19 (by omega)) (by decide)
theorem SS(x:Val)(hn:-9223372036854775808≤x.n∧x.n≤9223372036854775807)(hs:x.s.size≤2000):(Z4 x).length≤5000:=by unfold Z4;split;·{simp};split;·{split<;>simp};split;·{have:=yb x.n hn;omega};split;·{have h1:=T5 39 x.s.data.toList;have h2:x.s.data.toList.length=x.s.size:=rfl;simp only[zfT,zfD,zfV];omega};simp
open Go
structure Tk where
 k : Int
 t : ByteArray
 v : Val
def Tk.eq(a b:Tk):Bool:=decide (a.k=b.k)&&(decide (a.t.toList=b.t.toList)&&a.v.eq b.v)
theorem Tk.eq_iff{a b:Tk}:a.eq b=true↔a=b:=by obtain⟨k,t,v⟩:=a;obtain⟨k',t',v'⟩:=b;simp only[Tk.eq,ze4,ze6,Tk.mk.injEq,Val.eq_iff];constructor;·{rintro⟨h1,h2,h3⟩;exact⟨h1,zt h2,h3⟩};rintro⟨h1,h2,h3⟩;exact⟨h1,by rw[h2],h3⟩
abbrev ba(l:List UInt8):ByteArray:=⟨l.toArray⟩
theorem zcg{l r:List UInt8}(h:ba l=ba r):l=r:=by simpa using h
theorem ZA(s:ByteArray):ba s.data.toList=s:=by obtain⟨⟨l⟩⟩:=s;rfl
def tk0:Tk:=⟨0,emp,nl⟩
def yW(n:Int):Tk:=⟨1,emp,iv n⟩
def Vl(l:List UInt8):Tk:=⟨1,emp,⟨3,0,ba l⟩⟩
def Vq(l:List UInt8):Tk:=⟨2,ba l,nl⟩
def TR(l:List UInt8):Tk:=⟨0,ba l,nl⟩
def Vr:List UInt8:=[40,41,91,93,44,61,60,43,45,42,63]
def cls(b:UInt8):Int:=if b.toNat=32 then 1 else if 97≤b.toNat∧b.toNat≤122 then 2 else if 48≤b.toNat∧b.toNat≤57 then 3 else if b.toNat=95 then 4 else if b.toNat=39 then 5 else if b.toNat=45 then 6 else if 0≤Lib.indexByte Vr b then 7 else 0
theorem QY{b:UInt8}:cls b=1↔b.toNat=32:=by unfold cls;(repeat' split);all_goals(first|omega|simp_all)
theorem zch{b:UInt8}:cls b=2↔97≤b.toNat∧b.toNat≤122:=by unfold cls;(repeat' split);all_goals(first|omega|simp_all)
theorem R2{b:UInt8}:cls b=3↔48≤b.toNat∧b.toNat≤57:=by unfold cls;(repeat' split);all_goals(first|omega|simp_all)
theorem zdQ{b:UInt8}:cls b=4↔b.toNat=95:=by unfold cls;(repeat' split);all_goals(first|omega|simp_all)
theorem Ny{b:UInt8}:cls b=5↔b.toNat=39:=by unfold cls;(repeat' split);all_goals(first|omega|simp_all)
theorem Nz{b:UInt8}:cls b=6↔b.toNat=45:=by unfold cls;(repeat' split);all_goals(first|omega|simp_all)
theorem Y4:∀(l:List UInt8)(c:UInt8),0≤Lib.indexByte l c↔c∈l|[],c=>by simp[Lib.indexByte]|b::l,c=>by have ih:=Y4 l c;have hge:=Lib.indexByte_ge l c;rw[Lib.indexByte];by_cases h:b=c;·{subst h;simp};have hb:(b==c)=false:=by{simpa using h};rw[hb];simp only[zfg,if_false,zfn];by_cases hm:Lib.indexByte l c=-1;·{have:c∉l:=fun hc=>by{have:=ih.2 hc;omega};rw[hm];have hcb:¬c=b:=fun e=>h e.symm;simp[this,hcb]};have hne:(Lib.indexByte l c==-1)=false:=by{simpa using hm};rw[hne];have hc:c∈l:=ih.1 (by omega);simp[hc];omega
theorem QZ{b:UInt8}{n:Nat}(h:b.toNat=n):b=UInt8.ofNat n:=by rw[←h];simp
def V8(cs:List Int)(b:UInt8):Bool:=cs.contains (cls b)
abbrev dig:UInt8→Bool:=V8 [3]
abbrev inn:UInt8→Bool:=V8 [2,3,4]
abbrev blk:UInt8→Bool:=V8 [1]
theorem T7{b:UInt8}:dig b=true↔48≤b.toNat∧b.toNat≤57:=by rw[←R2];simp[dig,V8]
theorem Q0{b:UInt8}:blk b=true↔b.toNat=32:=by rw[←QY];simp[blk,V8]
theorem T8{b:UInt8}:inn b=true↔cls b=2∨cls b=3∨cls b=4:=by simp[inn,V8]
def Z5(w:List UInt8):Option Tk:=match Lib.atoiAll w with| .ok v=>if Lib.itoa v=w then some (yW v)else none|_=>none
def zK:Bool→List UInt8→Option (List UInt8×List UInt8)|false,[]=>none|true,[]=>some ([],[])|false,c::r=>if c=39 then zK true r else(zK false r).map fun p=>(c::p.1,p.2)|true,c::r=>if c=39 then(zK false r).map fun p=>(39::p.1,p.2)else some ([],c::r)
def xF:List UInt8→Option (Tk×List UInt8)|[]=>none|c::r=>if cls c=2 then some (TR ((c::r).takeWhile inn),(c::r).dropWhile inn)else if cls c=3 then(Z5 ((c::r).takeWhile dig)).map fun t=>(t,(c::r).dropWhile dig)else if cls c=5 then(zK false r).map fun p=>(Vl p.1,p.2)else if cls c=6 then(if r.takeWhile dig=[]then some (Vq [c],r)else(Z5 (c::r.takeWhile dig)).map fun t=>(t,r.dropWhile dig))else if cls c=7 then some (Vq [c],r)else none
def Zb(l:List UInt8):Bool:=match l with|[]=>false|c::r=>decide ((c::r).length≤30)&&(decide (cls c=2)&&(c::r).all inn)
def Xr(l:List UInt8):Bool:=match l with|[c]=>decide (c∈Vr)|_=>false
def Zf(t:Tk):Bool:=if t.k==0 then Zb t.t.data.toList&&t.v.eq nl else if t.k==1 then t.t.toList.isEmpty&&((t.v.k==2||t.v.k==3)&&Xp t.v)else if t.k==2 then Xr t.t.data.toList&&t.v.eq nl else false
def NA:Nat→List UInt8→Option (List Tk)|0,_=>some []|_+1,[]=>some []|n+1,c::r=>if cls c=1 then NA n r else match xF (c::r)with|none=>none|some (t,q)=>if Zf t then(NA n q).map (t::·)else none
def xE(l:List UInt8):Option (List Tk):=NA l.length l
def yu(t:Tk):List UInt8:=if t.k==1 then Z4 t.v else t.t.data.toList
def yx(l:List Tk):List UInt8:=Lib.join (l.map yu) [32]
theorem Xs(p:UInt8→Bool)(l:List UInt8):(l.dropWhile p).length≤l.length:=by have:=congrArg List.length (zfW (p:=p) (l:=l));rw[zfT]at this;omega
theorem ST:∀(l:List UInt8)(b:Bool)(u r:List UInt8),zK b l=some (u,r)→r.length≤l.length|[],false,u,r,h=>by simp[zK]at h|[],true,u,r,h=>by simp[zK]at h;simp[h.2]|c::l,false,u,r,h=>by rw[zK]at h;split at h;·{have:=ST l true u r h;simp;omega};(cases e:zK false l with|none=>rw[e]at h;(cases h)|some p=>rw[e]at h;simp at h;have:=ST l false p.1 p.2 e;rw[h.2]at this;simp;omega)|c::l,true,u,r,h=>by rw[zK]at h;split at h;·{cases e:zK false l with|none=>rw[e]at h;(cases h)|some p=>rw[e]at h;simp at h;have:=ST l false p.1 p.2 e;rw[h.2]at this;simp;omega};simp at h;rw[←h.2];simp
theorem VA{l:List UInt8}{t:Tk}{r:List UInt8}(h:xF l=some (t,r)):r.length<l.length:=by cases l with|nil=>(cases h)|cons c l=>rw[xF]at h;split at h;·{rename_i hc;have hi:inn c=true:=T8.2 (.inl hc);simp only[zfX,zfY]at h;rw[←h.2,zfZ,hi];have:=Xs inn l;simp;omega};split at h;·{rename_i hc;have hi:dig c=true:=T7.2 (R2.1 hc);cases e:Z5 ((c::l).takeWhile dig)with|none=>rw[e]at h;(cases h)|some q=>rw[e]at h;simp only[zf0,zfX,zfY]at h;rw[←h.2,zfZ,hi];have:=Xs dig l;simp;omega};split at h;·{cases e:zK false l with|none=>rw[e]at h;(cases h)|some q=>rw[e]at h;simp only[zf0,zfX,zfY]at h;have:=ST l false q.1 q.2 e;rw[←h.2];simp;omega};split at h;·{split at h;·{simp only[zfX,zfY]at h;rw[←h.2];simp};cases e:Z5 (c::l.takeWhile dig)with|none=>rw[e]at h;(cases h)|some q=>rw[e]at h;simp only[zf0,zfX,zfY]at h;have:=Xs dig l;rw[←h.2];simp;omega};split at h;·{simp only[zfX,zfY]at h;rw[←h.2];simp};cases h
theorem Q1:∀(n:Nat)(l:List UInt8),l.length≤n→NA n l=NA l.length l:=by intro n;induction n using Nat.strongRecOn with|_ n ih=>intro l hl;cases l with|nil=>(cases n<;>rfl)|cons c r=>cases n with|zero=>simp at hl|succ n=>rw[zfD]at hl⊢;rw[NA,NA];split;·{exact ih n (by omega) r (by omega)};cases e:xF (c::r)with|none=>rfl|some p=>obtain⟨t,q⟩:=p;have hq:=VA e;rw[zfD]at hq;simp only;split;·{rw[ih n (by omega) q (by omega),ih r.length (by omega) q (by omega)]};rfl
theorem Xt:xE []=some []:=rfl
theorem Zk{c:UInt8}{r:List UInt8}(h:cls c=1):xE (c::r)=xE r:=by unfold xE;rw[zfD,NA,if_pos h]
theorem Yf{c:UInt8}{r:List UInt8}(h:cls c≠1):xE (c::r)=match xF (c::r)with|none=>none|some (t,q)=>if Zf t then(xE q).map (t::·)else none:=by unfold xE;rw[zfD,NA,if_neg h];cases e:xF (c::r)with|none=>rfl|some p=>obtain⟨t,q⟩:=p;have hq:=VA e;rw[zfD]at hq;simp only;rw[Q1 r.length q (by omega)]
theorem V9:∀l:List UInt8,xE (l.dropWhile blk)=xE l|[]=>rfl|c::r=>by rw[zfZ];cases h:blk c;·{rfl};rw[Zk (QY.2 (Q0.1 h))];exact V9 r
theorem UQ(l:List UInt8):l.dropWhile blk=[]∨∃c r,l.dropWhile blk=c::r∧cls c≠1:=by cases e:l.dropWhile blk with|nil=>exact .inl rfl|cons c r=>refine .inr ⟨c,r,rfl,fun h=>?_⟩;have:=List.head_dropWhile_not blk (by{rw[e];simp}:l.dropWhile blk≠[]);simp only[e,List.head_cons]at this;rw[Q0.2 (QY.1 h)]at this;cases this
theorem Wa(p:UInt8→Bool)(hp:p 32=false)(x:List UInt8):∀l:List UInt8,(l++32::x).takeWhile p=l.takeWhile p∧(l++32::x).dropWhile p=l.dropWhile p++32::x|[]=>by simp[hp]|c::l=>by obtain⟨h1,h2⟩:=Wa p hp x l;rw[zfB,zf1,zf1,zfZ,zfZ];cases p c;·{exact⟨rfl,rfl⟩};simp only[if_true];exact⟨by rw[h1],h2⟩
theorem Ua(x:List UInt8):∀(l:List UInt8)(b:Bool)(u r:List UInt8),zK b l=some (u,r)→zK b (l++32::x)=some (u,r++32::x)|[],false,u,r,h=>by simp[zK]at h|[],true,u,r,h=>by simp[zK]at h;rw[h.1,h.2];rfl|c::l,false,u,r,h=>by rw[zK]at h;rw[zfB,zK];split at h;·{rename_i hc;rw[if_pos hc];exact Ua x l true u r h};rename_i hc;rw[if_neg hc];(cases e:zK false l with|none=>rw[e]at h;(cases h)|some p=>rw[e]at h;simp at h;rw[Ua x l false p.1 p.2 e];simp[h.1,h.2])|c::l,true,u,r,h=>by rw[zK]at h;rw[zfB,zK];split at h;·{rename_i hc;rw[if_pos hc];cases e:zK false l with|none=>rw[e]at h;(cases h)|some p=>rw[e]at h;simp at h;rw[Ua x l false p.1 p.2 e];simp[h.1,h.2]};rename_i hc;rw[if_neg hc];simp at h;rw[h.1.symm,←h.2];simp
theorem L4(x:List UInt8){l:List UInt8}{t:Tk}{r:List UInt8}(h:xF l=some (t,r)):xF (l++32::x)=some (t,r++32::x):=by have hi:inn 32=false:=by{decide};have hd:dig 32=false:=by{decide};cases l with|nil=>(cases h)|cons c l=>obtain⟨i1,i2⟩:=Wa inn hi x (c::l);obtain⟨d1,d2⟩:=Wa dig hd x (c::l);obtain⟨e1,e2⟩:=Wa dig hd x l;rw[zfB]at i1 i2 d1 d2⊢;rw[xF]at h⊢;rw[i1,i2,d1,d2,e1,e2];split at h;·{rename_i hc;rw[if_pos hc];simp only[zfX,zfY]at h⊢;exact⟨h.1,by rw[h.2]⟩};rename_i hc;rw[if_neg hc];split at h;·{rename_i hc;rw[if_pos hc];cases e:Z5 ((c::l).takeWhile dig)with|none=>rw[e]at h;(cases h)|some q=>rw[e]at h;simp only[zf0,zfX,zfY]at h⊢;exact⟨h.1,by rw[h.2]⟩};rename_i hc;rw[if_neg hc];split at h;·{rename_i hc;rw[if_pos hc];cases e:zK false l with|none=>rw[e]at h;(cases h)|some q=>rw[e]at h;simp only[zf0,zfX,zfY]at h;rw[Ua x l false q.1 q.2 e];simp only[zf0,zfX,zfY];exact⟨h.1,by rw[h.2]⟩};rename_i hc;rw[if_neg hc];split at h;·{rename_i hc;rw[if_pos hc];split at h;·{rename_i he;rw[if_pos he];simp only[zfX,zfY]at h⊢;exact⟨h.1,by rw[h.2]⟩};rename_i he;rw[if_neg he];cases e:Z5 (c::l.takeWhile dig)with|none=>rw[e]at h;(cases h)|some q=>rw[e]at h;simp only[zf0,zfX,zfY]at h⊢;exact⟨h.1,by rw[h.2]⟩};rename_i hc;rw[if_neg hc];split at h;·{rename_i hc;rw[if_pos hc];simp only[zfX,zfY]at h⊢;exact⟨h.1,by rw[h.2]⟩};cases h
theorem T9(x:List UInt8):∀(n:Nat)(s:List UInt8)(a:List Tk),s.length≤n→xE s=some a→xE (s++32::x)=(xE x).map (a++·)|n,[],a,_,h=>by rw[Xt]at h;simp only[zfX]at h;rw[←h,zfz,Zk (by decide)];(cases xE x<;>rfl)|0,c::s,a,hn,_=>by simp at hn|n+1,c::s,a,hn,h=>by rw[zfD]at hn;by_cases hc:cls c=1;·{rw[Zk hc]at h;rw[zfB,Zk hc];exact T9 x n s a (by omega) h};rw[Yf hc]at h;rw[zfB,Yf hc];cases e:xF (c::s)with|none=>rw[e]at h;(cases h)|some p=>obtain⟨t,q⟩:=p;have hq:=VA e;rw[zfD]at hq;have e2:=L4 x e;rw[zfB]at e2;rw[e]at h;rw[e2];simp only at h⊢;split at h;·{rename_i hm;rw[if_pos hm];cases e3:xE q with|none=>rw[e3]at h;(cases h)|some b=>rw[e3]at h;simp only[zf0,zfX]at h;rw[T9 x n q b (by omega) e3,←h];cases xE x<;>simp};cases h
theorem Ub:∀(l:List UInt8)(a:Nat),a≤l.foldl (fun a c=>a*10+(c.toNat-48)) a|[],a=>zfb _|c::l,a=>by rw[zf2];have:=Ub l (a*10+(c.toNat-48));omega
theorem VC:∀(l:List UInt8)(a:Nat),(∀c∈l,48≤c.toNat∧c.toNat≤57)→l.foldl (fun a c=>a*10+(c.toNat-48)) a<18446744073709551616→Lib.parseUint10 a l= .ok (l.foldl (fun a c=>a*10+(c.toNat-48)) a)|[],a,_,_=>rfl|c::l,a,h,hlt=>by rw[zf2]at hlt;have:=Ub l (a*10+(c.toNat-48));rw[Lib.parseUint10,if_pos (h c (by simp)),if_neg (by omega),if_neg (by omega),VC l _ (fun d hd=>h d (zf3 _ hd)) hlt,zf2]
theorem UR(u:Nat)(h:u<18446744073709551616):Lib.parseMag (Lib.decDigits u)= .ok u:=by obtain⟨c,l,hl,_⟩:=Y3 u;unfold Lib.parseMag;rw[if_neg (by rw[hl];simp)];have hn:=T4 u;unfold num at hn;rw[VC (Lib.decDigits u) 0 (WC u) (by rw[hn];exact h),hn]
theorem WD(v:Int)(h:-9223372036854775808≤v∧v≤9223372036854775807):Lib.atoiAll (Lib.itoa v)= .ok v:=by unfold Lib.itoa;by_cases hv:v<0;·{rw[if_pos hv];have hp:=UR v.natAbs (by omega);unfold Lib.atoiAll;simp only;rw[if_pos (.inr (by decide)),hp];simp only;rw[if_neg (by rintro⟨h1,_⟩;exact h1 (by decide)),if_neg (by rintro⟨_,h2⟩;omega),if_pos (by decide)];congr 1;omega};rw[if_neg hv];have hp:=UR v.toNat (by omega);obtain⟨c,l,hl,h1,h2⟩:=Y3 v.toNat;rw[hl]at hp⊢;unfold Lib.atoiAll;simp only;rw[if_neg (by omega),hp];simp only;rw[if_neg (by rintro⟨_,h2⟩;omega),if_neg (by rintro⟨h1,_⟩;omega),if_neg (by omega)];congr 1;omega
theorem SU(v:Int)(h:-9223372036854775808≤v∧v≤9223372036854775807):Z5 (Lib.itoa v)=some (yW v):=by unfold Z5;rw[WD v h];simp
theorem Sa:∀s:List UInt8,zK false (Ya 39 [39,39] s++[39])=some (s,[])|[]=>rfl|c::s=>by rw[Ya];split;·{rename_i hc;subst hc;show zK false (39::39::(Ya 39 [39,39] s++[39]))=_;rw[zK,if_pos rfl,zK,if_pos rfl,Sa s];rfl};rename_i hc;rw[zfB,zK,if_neg hc,Sa s];rfl
def T64(t:Tk):Prop:=-9223372036854775808≤t.v.n∧t.v.n≤9223372036854775807
theorem Wb(p:UInt8→Bool):∀l:List UInt8,(∀c∈l,p c=true)→l.takeWhile p=l∧l.dropWhile p=[]|[],_=>⟨rfl,rfl⟩|c::l,h=>by obtain⟨h1,h2⟩:=Wb p l (fun d hd=>h d (zf3 _ hd));rw[zf1,zfZ,h c (by simp)];exact⟨by simp only[if_true];rw[h1],h2⟩
theorem L5:∀c∈Vr,cls c=6∨cls c=7:=by decide
theorem Q2(t:Tk)(hm:Zf t=true)(h6:T64 t):xF (yu t)=some (t,[]):=by obtain⟨k,s,v⟩:=t;unfold T64 at h6;unfold Zf at hm;unfold yu;simp only at*;by_cases h0:k=0;·{subst h0;simp only[beq_self_eq_true,if_true,ze4,Val.eq_iff]at hm;obtain⟨hw,rfl⟩:=hm;rw[if_neg (by decide)];unfold Zb at hw;split at hw;·{cases hw};rename_i c r e;simp only[ze4,ze6,zeY]at hw;obtain⟨h1,h2⟩:=Wb inn (c::r) hw.2.2;rw[e,xF,if_pos hw.2.1,h1,h2,←e];unfold TR;rw[ZA]};have k0:(k==0)=false:=by{simpa using h0};rw[k0]at hm;simp only[zfg,if_false]at hm;by_cases h1:k=1;·{subst h1;simp only[beq_self_eq_true,if_true,ze4,ze7,beq_iff_eq]at hm⊢;obtain⟨he,hk,hv⟩:=hm;have hs:=Wx he;subst hs;obtain⟨vk,vn,vs⟩:=v;have hval:=Yd _ hv;simp only at*;rcases hk with rfl|rfl;·{rcases hval with⟨hk,_⟩|⟨hk,_⟩|⟨_,hs⟩|⟨hk,_⟩;·{simp at hk};·{simp at hk};·{simp only at hs;subst hs;have ht:Z4 ⟨2,vn,emp⟩=Lib.itoa vn:=rfl;have hnum:=SU vn h6;rw[ht];unfold Lib.itoa at hnum⊢;by_cases hneg:vn<0;·{rw[if_pos hneg]at hnum⊢;obtain⟨a1,a2⟩:=Wb dig (Lib.decDigits vn.natAbs) (fun c hc=>T7.2 (WC _ c hc));obtain⟨c,l,hl,_⟩:=Y3 vn.natAbs;rw[xF,if_neg (by decide),if_neg (by decide),if_neg (by decide),if_pos (by decide),a1,a2,if_neg (by rw[hl];simp),hnum];rfl};rw[if_neg hneg]at hnum⊢;obtain⟨a1,a2⟩:=Wb dig (Lib.decDigits vn.toNat) (fun c hc=>T7.2 (WC _ c hc));obtain⟨c,l,hl,hc1,hc2⟩:=Y3 vn.toNat;rw[hl]at a1 a2 hnum⊢;rw[xF,if_neg (by rw[zch];omega),if_pos (R2.2 ⟨hc1,hc2⟩),a1,a2,hnum];rfl};simp at hk};rcases hval with⟨hk,_⟩|⟨hk,_⟩|⟨hk,_⟩|⟨_,hn,hs⟩;·{simp at hk};·{simp at hk};·{simp at hk};simp only at hn;subst hn;have ht:Z4 ⟨3,0,vs⟩=39::(Ya 39 [39,39] vs.data.toList++[39]):=rfl;rw[ht,xF,if_neg (by decide),if_neg (by decide),if_pos (by decide),Sa];simp only[zf0];unfold Vl;rw[ZA]};have k1:(k==1)=false:=by{simpa using h1};rw[k1]at hm⊢;simp only[zfg,if_false]at hm⊢;by_cases h2:k=2;·{subst h2;simp only[beq_self_eq_true,if_true,ze4,Val.eq_iff]at hm;obtain⟨hw,rfl⟩:=hm;unfold Xr at hw;split at hw;·{rename_i c e;simp only[ze6]at hw;have hc:=L5 c hw;rw[e,xF];have e2:Vq [c]=⟨2,s,nl⟩:=by{unfold Vq;rw[←e,ZA]};rcases hc with hc|hc;·{rw[if_neg (by omega),if_neg (by omega),if_neg (by omega),if_pos hc,List.takeWhile_nil,if_pos rfl,e2]};rw[if_neg (by omega),if_neg (by omega),if_neg (by omega),if_neg (by omega),if_pos hc,e2]};cases hw};have k2:(k==2)=false:=by{simpa using h2};rw[k2]at hm;cases hm
theorem Q3(t:Tk)(hm:Zf t=true)(h6:T64 t):xE (yu t)=some [t]:=by have h:=Q2 t hm h6;cases e:yu t with|nil=>rw[e]at h;(cases h)|cons c r=>rw[e]at h;have hc:cls c≠1:=by{intro hc;rw[xF,if_neg (by omega),if_neg (by omega),if_neg (by omega),if_neg (by omega),if_neg (by omega)]at h;cases h};rw[Yf hc,h];simp only;rw[if_pos hm,Xt];rfl
theorem VD(t:Tk)(l:List Tk)(h:l≠[]):yx (t::l)=yu t++32::yx l:=by cases l with|nil=>exact absurd rfl h|cons u l=>unfold yx;rw[zfm,zfm,zf4,zf4];simp[Lib.joinTail]
theorem US(t:Tk):yx [t]=yu t:=by unfold yx;rw[zfm,zf4];simp[Lib.joinTail]
theorem UT:∀l:List Tk,(∀t∈l,Zf t=true)→(∀t∈l,T64 t)→xE (yx l)=some l|[],_,_=>rfl|[t],hm,h6=>by rw[US];exact Q3 t (hm t (by simp)) (h6 t (by simp))|t::u::l,hm,h6=>by rw[VD t (u::l) (by simp),T9 _ _ _ [t] (zfb _) (Q3 t (hm t (by simp)) (h6 t (by simp))),UT (u::l) (fun x hx=>hm x (zf3 _ hx)) (fun x hx=>h6 x (zf3 _ hx))];rfl
theorem zci(t:Tk)(hm:Zf t=true)(h6:T64 t):yu t≠[]:=by intro e;have h:=Q2 t hm h6;rw[e]at h;cases h
theorem Uc{w:List UInt8}{v:Int}(e:Lib.atoiAll w= .ok v):-9223372036854775808≤v∧v≤9223372036854775807:=by unfold Lib.atoiAll at e;split at e;·{cases e};simp only at e;split at e;·{cases e};·{cases e};split at e;·{cases e};split at e;·{cases e};rename_i u _ h1 h2;injection e with e;subst e;split<;>omega
theorem Li{w:List UInt8}{t:Tk}(h:Z5 w=some t):T64 t:=by unfold Z5 at h;split at h;·{rename_i v e;split at h;·{simp only[zfX]at h;subst h;exact Uc e};cases h};cases h
theorem Lj{l:List UInt8}{t:Tk}{r:List UInt8}(h:xF l=some (t,r)):T64 t:=by cases l with|nil=>(cases h)|cons c l=>rw[xF]at h;split at h;·{simp only[zfX,zfY]at h;rw[←h.1];exact⟨(by{decide}:(-9223372036854775808:Int)≤0),(by{decide}:(0:Int)≤9223372036854775807)⟩};split at h;·{cases e:Z5 ((c::l).takeWhile dig)with|none=>rw[e]at h;(cases h)|some q=>rw[e]at h;simp only[zf0,zfX,zfY]at h;rw[←h.1];exact Li e};split at h;·{cases e:zK false l with|none=>rw[e]at h;(cases h)|some q=>rw[e]at h;simp only[zf0,zfX,zfY]at h;rw[←h.1];exact⟨(by{decide}:(-9223372036854775808:Int)≤0),(by{decide}:(0:Int)≤9223372036854775807)⟩};split at h;·{split at h;·{simp only[zfX,zfY]at h;rw[←h.1];exact⟨(by{decide}:(-9223372036854775808:Int)≤0),(by{decide}:(0:Int)≤9223372036854775807)⟩};cases e:Z5 (c::l.takeWhile dig)with|none=>rw[e]at h;(cases h)|some q=>rw[e]at h;simp only[zf0,zfX,zfY]at h;rw[←h.1];exact Li e};split at h;·{simp only[zfX,zfY]at h;rw[←h.1];exact⟨(by{decide}:(-9223372036854775808:Int)≤0),(by{decide}:(0:Int)≤9223372036854775807)⟩};cases h
theorem Ud:∀(n:Nat)(s:List UInt8)(a:List Tk),s.length≤n→xE s=some a→∀t∈a,Zf t=true∧T64 t|n,[],a,_,h,t,ht=>by rw[Xt]at h;simp only[zfX]at h;rw[←h]at ht;(cases ht)|0,c::s,a,hn,_,t,ht=>by simp at hn|n+1,c::s,a,hn,h,t,ht=>by rw[zfD]at hn;by_cases hc:cls c=1;·{rw[Zk hc]at h;exact Ud n s a (by omega) h t ht};rw[Yf hc]at h;cases e:xF (c::s)with|none=>rw[e]at h;(cases h)|some p=>obtain⟨u,q⟩:=p;have hq:=VA e;rw[zfD]at hq;rw[e]at h;simp only at h;split at h;·{rename_i hm;cases e3:xE q with|none=>rw[e3]at h;(cases h)|some b=>rw[e3]at h;simp only[zf0,zfX]at h;rw[←h]at ht;rcases zfn.1 ht with rfl|ht;·{exact⟨hm,Lj e⟩};exact Ud n q b (by omega) e3 t ht};cases h
open Go
structure Nd where
 op : Int
 n : Int
 v : Val
def Nd.eq(a b:Nd):Bool:=decide (a.op=b.op)&&(decide (a.n=b.n)&&a.v.eq b.v)
theorem Nd.eq_iff{a b:Nd}:a.eq b=true↔a=b:=by obtain⟨o,n,v⟩:=a;obtain⟨o',n',v'⟩:=b;simp only[Nd.eq,ze4,ze6,Nd.mk.injEq,Val.eq_iff]
end Go.Proofs.YthjjpdjdnhjdbaaGreatDoor
