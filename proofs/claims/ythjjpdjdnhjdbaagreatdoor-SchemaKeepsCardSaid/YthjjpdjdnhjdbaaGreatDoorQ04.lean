/-
  Part 4 of 37 of what the proof leans on: each part below says what it proves, and of what; no condition besides.
-/
import Derived.Test.YthjjpdjdnhjdbaaGreatDoorQ01
import Derived.Test.YthjjpdjdnhjdbaaGreatDoorQ03
set_option linter.unusedVariables false
set_option linter.unusedSimpArgs false
namespace Go.Proofs.YthjjpdjdnhjdbaaGreatDoor
open Go
set_option maxRecDepth 100000
def kAt(ks:List Int)(n:Int):Int:=if n<0∨(ks.length:Int)≤n then 0 else ks.getD n.toNat 0
def YH(fk:List Int)(a:Ag):Int:=if a.fn=0 then 2 else if a.fn=1∧kAt fk a.col≠2 then 0 else kAt fk a.col
def YI(v:Vw)(fk:List Int):List Int:=v.pick.map (kAt fk)++v.aggs.map (YH fk)
def Wa(g:List En)(v:Vw):Option (List Int):=match zz g v.frm with|none=>none|some f=>if v.wth.toList.isEmpty then some f.ks else match zz g v.wth with|none=>none|some e=>if kAt f.ks v.on0=0∨kAt f.ks v.on0≠kAt e.ks v.on1 then none else some (f.ks++e.ks)
def Pn(ty:List Nd→List Int→Int×Int)(v:Vw)(fk:List Int):Bool:=(!v.whr.isEmpty&&!Z5 ty v.whr fk)||(!v.aggs.isEmpty&&!v.grp)
def Q3(ks:List Int):Bool:=decide (ks.length=0)||(decide (40<ks.length)||ks.contains 0)
def Z6(ty:List Nd→List Int→Int×Int)(g:List En)(v:Vw):Option En:=match Wa g v with|none=>none|some fk=>if Pn ty v fk then none else if Q3 (YI v fk)then none else some ⟨v.name,false,YI v fk,List.replicate (YI v fk).length true⟩
theorem Rh{ks:List Int}{n:Int}(h:kAt ks n≠0):0≤n∧n<ks.length∧kAt ks n=ks.getD n.toNat 0:=by unfold kAt at*;split at h;·{exact absurd rfl h};rename_i hn;rw[if_neg hn];exact⟨by omega,by omega,rfl⟩
theorem Yn{ks:List Int}{n:Int}(h0:0≤n)(h:n<ks.length):kAt ks n=ks.getD n.toNat 0:=by unfold kAt;rw[if_neg (by omega)]
theorem Ur{ks:List Int}(hk:∀k∈ks,1≤k∧k≤3){n:Int}(h0:0≤n)(h:n<ks.length):kAt ks n≠0:=by rw[Yn h0 h];have:=WX hk h0 h;omega
theorem Wy{g:List En}{n:ByteArray}{e:En}(h:zz g n=some e):ksE g n=e.ks:=by unfold ksE;rw[h]
theorem Sy{g:List En}{v:Vw}{f:En}(h:zz g v.frm=some f)(hw:v.wth.toList.isEmpty=true):zF g v=f.ks:=by unfold zF;rw[Wy h,if_pos hw,zfQ]
theorem WZ{g:List En}{v:Vw}{f e:En}(h:zz g v.frm=some f)(hw:v.wth.toList.isEmpty=false)(h2:zz g v.wth=some e):zF g v=f.ks++e.ks:=by unfold zF;rw[Wy h,Wy h2,if_neg (by simp[hw])]
theorem Th{a b:List Int}{n:Nat}(h:n<a.length):(a++b).getD n 0=a.getD n 0:=by rw[zgn,zgn,List.getElem?_append_left h]
theorem VX{a b:List Int}{n:Nat}:(a++b).getD (a.length+n) 0=b.getD n 0:=by rw[zgn,zgn,List.getElem?_append_right (by omega),Nat.add_sub_cancel_left]
theorem LF{g:List En}(hg:∀e∈g,YG e){v:Vw}(hv:Zk v=true){fk:List Int}:Wa g v=some fk↔((zz g v.frm).isSome=true∧(v.wth.toList.isEmpty=false→(zz g v.wth).isSome=true)∧YU g v=false)∧fk=zF g v:=by unfold Zk at hv;simp only[zff]at hv;have hon:=hv.2.2.1;unfold Wa;cases hf:zz g v.frm with|none=>simp|some f=>have gf:=hg f (zgh hf);cases hw:v.wth.toList.isEmpty with|true=>simp only[if_true];rw[Sy hf hw];have hjb:YU g v=false:=by{unfold YU;rw[hw];rfl};constructor;·{intro h;exact⟨⟨rfl,(fun h=>by cases h),hjb⟩,(zgw h).symm⟩};rintro⟨_,rfl⟩;rfl|false=>rw[hw]at hon;simp only[zfr,if_false,zff,Zy,zfh]at hon⊢;obtain⟨_,⟨o1,_⟩,o2,_⟩:=hon;cases h2:zz g v.wth with|none=>simp|some e=>have ge:=hg e (zgh h2);rw[WZ hf hw h2];have hjb:YU g v=false↔(v.on0<f.ks.length∧v.on1<e.ks.length∧kAt f.ks v.on0=kAt e.ks v.on1):=by{unfold YU;rw[hw,Wy hf,WZ hf hw h2];simp only[zfp,zgx,zgp,zgs,zf4,Decidable.not_not];constructor;·{rintro⟨a,b,c⟩;have a':v.on0<f.ks.length:=by{omega};have b':v.on1<e.ks.length:=by{omega};rw[Th (by omega),VX]at c;exact⟨a',b',by rw[Yn o1 a',Yn o2 b',c]⟩};rintro⟨a,b,c⟩;refine⟨by omega,by omega,?_⟩;rw[Th (by omega),VX,←Yn o1 a,←Yn o2 b,c]};simp only[Option.isSome_some,true_and,forall_const,hjb];by_cases hc:kAt f.ks v.on0=0∨kAt f.ks v.on0≠kAt e.ks v.on1;·{rw[if_pos hc];constructor;·{intro h;cases h};rintro⟨⟨a,b,c⟩,_⟩;rcases hc with hc|hc;·{exact absurd hc (Ur gf.kd o1 a)};exact absurd c hc};rw[if_neg hc];have h0:kAt f.ks v.on0≠0:=fun h=>hc (.inl h);have h1:kAt f.ks v.on0=kAt e.ks v.on1:=Decidable.not_not.1 fun h=>hc (.inr h);have a:=Rh h0;rw[h1]at h0;have b:=Rh h0;constructor;·{intro h;exact⟨⟨a.2.1,b.2.1,h1⟩,(zgw h).symm⟩};rintro⟨_,rfl⟩;rfl
theorem zcx{v:Vw}(hv:Zk v=true){fk:List Int}(hk:∀k∈fk,1≤k∧k≤3):(YI v fk).contains 0=false↔((∀n∈v.pick,n<fk.length)∧∀a∈v.aggs,WW fk a=false):=by unfold Zk at hv;simp only[zff,ze9,Zy,zfh]at hv;have hp:=hv.2.2.2.2.2.1;have ha:=hv.2.2.2.2.2.2.2.1;have hone:∀a∈v.aggs,YH fk a≠0↔WW fk a=false:=by{intro a ham;have hm:=ha a ham;unfold Z9 at hm;unfold YH WW;by_cases h0:a.fn=0;·{rw[if_pos h0];simp[h0]};rw[if_neg h0]at hm⊢;simp only[Zy,zff,zfh]at hm;obtain⟨m1,m2,m3,m4⟩:=hm;simp only[h0,ne_eq,not_false_eq_true,decide_true,zgx,zgp,zgs,zgq];constructor;·{intro h;have hk0:kAt fk a.col≠0:=by{intro hz;rw[hz]at h;split at h<;>exact h rfl};have hi:=Rh hk0;refine⟨by omega,?_⟩;by_cases h1:a.fn=1;·{right;by_cases h2:kAt fk a.col=2;·{rw[←hi.2.2,h2];simp};rw[if_pos ⟨h1,h2⟩]at h;exact absurd rfl h};left;exact h1};rintro⟨h1,h2⟩;have hl:a.col<fk.length:=by{omega};have hk2:=Ur hk m3 hl;rw[←Yn m3 hl]at h2;rw[if_neg];·{exact hk2};rintro⟨h3,h4⟩;rcases h2 with h2|h2;·{exact h2 h3};exact h2 h4};rw[←zgy,zfo];unfold YI;rw[zfF,zfk,zfk];constructor;·{intro h;refine⟨fun n hn=>?_,fun a ham=>(hone a ham).1 fun hz=>h (.inr ⟨a,ham,hz⟩)⟩;exact(Rh (fun hz=>h (.inl ⟨n,hn,hz⟩))).2.1};rintro⟨h1,h2⟩(⟨n,hn,hz⟩|⟨a,ham,hz⟩);·{exact Ur hk (hp n hn).1 (h1 n hn) hz};exact(hone a ham).2 (h2 a ham) hz
variable {ty : List Nd → List Int → Int × Int}
theorem W6{g:List En}{d:Df}(hv:Zk d.v=true)(hk:d.k≠0)(h:NQ ty g d.v)(hg:∀e∈g,YG e):YI d.v (zF g d.v)=yP g d:=by have hj:=Ym hg d.v;unfold Zk at hv;simp only[zff,ze9,Zy,zfh]at hv;have hp:=hv.2.2.2.2.2.1;have ha:=hv.2.2.2.2.2.2.2.1;unfold YI yP;rw[if_neg hk];congr 1;·{exact zfb fun n hn=>Yn (hp n hn).1 (h.pick n hn)};refine zfb fun a ham=>?_;have hm:=ha a ham;have hb:=h.aggs a ham;unfold Z9 at hm;unfold WW at hb;unfold YH zdQ;by_cases h0:a.fn=0;·{have h3:¬2≤a.fn:=by{omega};rw[if_pos h0,if_neg h3]};rw[if_neg h0]at hm⊢;simp only[Zy,zff,zfh]at hm;obtain⟨m1,m2,m3,m4⟩:=hm;simp only[h0,ne_eq,not_false_eq_true,decide_true,zgx,zgp,zgs,zgq]at hb;have hl:a.col<(zF g d.v).length:=by{omega};rw[Yn m3 hl];by_cases h1:a.fn=1;·{have h3:¬2≤a.fn:=by{omega};rw[if_neg h3];have h2:(zF g d.v).getD a.col.toNat 0=2:=by{rcases hb.2 with h|h;·{exact absurd h1 h};exact Decidable.not_not.1 h};rw[h2];simp};have h3:2≤a.fn:=by{omega};have h4:¬(a.fn=1∧(zF g d.v).getD a.col.toNat 0≠2):=fun h=>h1 h.1;rw[if_pos h3,if_neg h4]
theorem zcy{g:List En}(hg:∀e∈g,YG e){d:Df}(hv:Zk d.v=true)(hk:d.k≠0):Z6 ty g d.v=if YV ty g d.v=true then none else some (enD g d):=by have hj:=Ym hg d.v;have key:∀e,Z6 ty g d.v=some e↔NQ ty g d.v∧e=enD g d:=by{intro e;unfold Z6;constructor;·{intro h;split at h;·{cases h};rename_i fk hfk;obtain⟨⟨a1,a2,a3⟩,rfl⟩:=(LF hg hv).1 hfk;split at h;·{cases h};rename_i hask;split at h;·{cases h};rename_i hks;unfold Pn at hask;simp only[zgy,zgp,zgq,zgr]at hask;unfold Q3 at hks;simp only[zgy,zgp,zgs]at hks;obtain⟨k1,k2,k3⟩:=hks;have hr:=(zcx hv hj).1 k3;have hl:(YI d.v (zF g d.v)).length=d.v.pick.length+d.v.aggs.length:=by{unfold YI;simp};have hF:NQ ty g d.v:=by{refine⟨a1,a2,a3,fun hw=>?_,hr.1,hr.2,fun hgp=>?_,by omega⟩;·{rcases hask.1 with h|h;·{rw[hw]at h;cases h};exact h};rcases hask.2 with h|h;·{simpa using h};rw[hgp]at h;cases h};refine⟨hF,?_⟩;rw[←zgw h];unfold enD zY X8;rw[if_neg hk,if_neg hk,←W6 hv hk hF hg,hl];simp[hk]};rintro⟨hF,rfl⟩;rw[(LF hg hv).2 ⟨⟨hF.frm,hF.wth,hF.join⟩,rfl⟩];have hask:Pn ty d.v (zF g d.v)=false:=by{unfold Pn;simp only[zgp,zgq,zgr];refine⟨?_,?_⟩;·{cases hw:d.v.whr.isEmpty;·{right;exact hF.whr hw};left;rfl};cases hgp:d.v.grp;·{left;rw[hF.grp hgp];rfl};right;rfl};have hl:(YI d.v (zF g d.v)).length=d.v.pick.length+d.v.aggs.length:=by{unfold YI;simp};have hks:Q3 (YI d.v (zF g d.v))=false:=by{unfold Q3;rw[(zcx hv hj).2 ⟨hF.pick,hF.aggs⟩,hl];have:=hF.few;simp only[Bool.or_false,zgp,zgs];omega};simp only[hask,hks,zfr,if_false];unfold enD zY X8;rw[if_neg hk,if_neg hk,←W6 hv hk hF hg,hl];simp[hk]};cases hb:YV ty g d.v with|true=>rw[if_pos rfl];(cases hp:Z6 ty g d.v with|none=>rfl|some e=>have:=Xg.2 ((key e).1 hp).1;rw[hb]at this;cases this)|false=>rw[if_neg (by simp)];exact(key _).2 ⟨Xg.1 hb,rfl⟩
def W7(all:List En)(c:Cl):Bool:=if c.ref.toList.isEmpty then true else match zz all c.ref with|none=>false|some e=>e.tb&&(decide (kAt e.ks 0=c.kind)&&(decide (c.act≠2)||c.nul))
theorem zcz{g:List En}(hg:∀e∈g,YG e){d:Df}(hk:d.k=0)(hm:Ye d)(hn:zz g d.t.name=none){c:Cl}(hc:c∈d.t.cols):W7 (g++[enD g d]) c=!WV g d.t c:=by unfold W7 WV;cases hr:c.ref.toList.isEmpty with|true=>rfl|false=>simp only[zfr,if_false,zfp,zgx];rw[Yl];unfold zd4;by_cases he:c.ref=d.t.name;·{rw[he,hn];have hl:zz [enD g d] d.t.name=some (enD g d):=by{unfold zz enD zY;simp[hk]};simp only[hl,if_true];have hne:d.t.cols≠[]:=List.ne_nil_of_mem hc;cases hcs:d.t.cols with|nil=>exact absurd hcs hne|cons x r=>have e1:kAt (enD g d).ks 0=x.kind:=by{show kAt (yP g d) 0=_;rw[(Zn hk).1,hcs,Yn (by omega) (by simp)];rfl};have e2:(enD g d).tb=true:=zfZ hk;rw[e1,e2];simp only[zgx,zfN,zgb];by_cases h1:c.kind=x.kind;·{simp[h1]};simp[h1,zfs h1]};rw[if_neg he];have hl:zz [enD g d] c.ref=none:=by{unfold zz enD zY;simp[hk,zfs he]};cases hf:zz g c.ref with|none=>simp[hl]|some e=>have ge:=hg e (zgh hf);simp only[zft];cases ht:e.tb with|false=>simp|true=>have:∃k r,e.ks=k::r:=by{cases hks:e.ks with|nil=>have:=ge.ne;rw[hks]at this;simp at this|cons k r=>exact⟨k,r,rfl⟩};obtain⟨k,r,hks⟩:=this;have e1:kAt e.ks 0=k:=by{rw[Yn (by omega) (by have:=ge.ne;omega),hks];rfl};rw[e1,hks];simp only[if_true,zgx,zfN];by_cases h1:c.kind=k;·{simp[h1]};simp[h1,zfs h1]
def Qm(c:Cl):Bool:=!c.nul&&(decide (c.kind≠1)&&c.ref.toList.isEmpty)
def Zo(cs:List Cl)(k:Nat):Bool:=(cs.take k).any fun x=>decide (x.name=(cs.getD k ⟨emp,0,false,false,emp,0⟩).name)
theorem Qn:∀(cs:List Cl),YJ cs=(List.range cs.length).any (Zo cs):=by intro cs;rw[zfY,zfg];have gen:∀cs:List Cl,YJ cs=true↔∃(i j:Nat)(x y:Cl),i<j∧cs[i]?=some x∧cs[j]?=some y∧x.name=y.name:=by{intro cs;induction cs with|nil=>simp[YJ]|cons c r ih=>rw[YJ,zfi,ih,zfg];constructor;·{rintro(⟨x,hx,he⟩|⟨i,j,x,y,h1,h2,h3,h4⟩);·{obtain⟨j,hj⟩:=zgz hx;exact⟨0,j+1,c,x,by omega,rfl,by simpa using hj,(of_decide_eq_true he).symm⟩};exact⟨i+1,j+1,x,y,by omega,by simpa using h2,by simpa using h3,h4⟩};rintro⟨i,j,x,y,h1,h2,h3,h4⟩;obtain⟨j,rfl⟩:∃j',j=j'+1:=⟨j-1,by omega⟩;cases i with|zero=>left;obtain rfl:c=x:=by{simpa using h2};exact⟨y,zfI (by simpa using h3),zfZ h4.symm⟩|succ i=>right;exact⟨i,j,x,y,by omega,by simpa using h2,by simpa using h3,h4⟩};rw[gen];constructor;·{rintro⟨i,j,x,y,h1,h2,h3,h4⟩;have hj:=(zgA.1 h3).1;refine⟨j,zfa.2 hj,?_⟩;unfold Zo;rw[zfg];refine⟨x,zfI (i:=i) (by rw[zgB,if_pos h1];exact h2),?_⟩;rw[zgn,h3];exact zfZ h4};rintro⟨j,hj,h⟩;rw[zfa]at hj;unfold Zo at h;rw[zfg]at h;obtain⟨x,hx,he⟩:=h;obtain⟨i,hi⟩:=zgz hx;rw[zgB]at hi;split at hi;·{rename_i hlt;refine⟨i,j,x,cs[j],hlt,hi,zgo hj,?_⟩;rw[zgn,zgo hj]at he;exact of_decide_eq_true he};cases hi
def Ti(ty:List Nd→List Int→Int×Int)(all:List En)(t:Tb):Int:=if !Qm (t.cols.getD 0 ⟨emp,0,false,false,emp,0⟩)||YJ t.cols then 91 else if t.cols.any (fun c=>!W7 all c)then 92 else if t.checks.any (fun e=>!Z5 ty e (t.cols.map (·.kind)))then 93 else 0
theorem zd5{g:List En}(hg:∀e∈g,YG e){d:Df}(hk:d.k=0)(hm:Ye d)(hn:zz g d.t.name=none):Ti ty (g++[enD g d]) d.t=if XF d.t then 91 else if d.t.cols.any (WV g d.t)then 92 else if d.t.checks.any (fun e=>!Z5 ty e (d.t.cols.map (·.kind)))then 93 else 0:=by unfold Ti;have e1:(!Qm (d.t.cols.getD 0 ⟨emp,0,false,false,emp,0⟩)||YJ d.t.cols)=XF d.t:=by{unfold XF;have ht:=Rc hm hk;unfold ZL at ht;simp only[zff,zfu,zgk]at ht;cases hc:d.t.cols with|nil=>exact absurd hc ht.2.1|cons x r=>unfold Su Qm;simp only[List.getD_cons_zero];rw[Bool.or_comm];congr 1;by_cases h1:x.kind=1<;>cases x.nul<;>cases x.ref.toList.isEmpty<;>simp[h1]};have e2:(d.t.cols.any fun c=>!W7 (g++[enD g d]) c)=d.t.cols.any (WV g d.t):=by{rw[zfY,zfg,zfg];constructor;·{rintro⟨c,hc,h⟩;rw[zcz hg hk hm hn hc,Bool.not_not]at h;exact⟨c,hc,h⟩};rintro⟨c,hc,h⟩;exact⟨c,hc,by rw[zcz hg hk hm hn hc,Bool.not_not];exact h⟩};rw[e1,e2]
theorem Po{ok:Df→Bool}{g:List En}(hg:∀e∈g,YG e){d:Df}(hm:Ye d)(ho:ok d=true)(hl:g.length<20)(hn:zz g (zY d)=none)(hk:d.k=0):zt ok ty g d=Ti ty (g++[enD g d]) d.t:=by have hn':zz g d.t.name=none:=by{unfold zY at hn;rwa[if_pos hk]at hn};unfold zt;rw[if_neg (by simp[ho]),if_neg (by omega),if_neg (by simp[hn]),if_pos hk,zd5 hg hk hm hn']
theorem NR{ok:Df→Bool}{g:List En}(hg:∀e∈g,YG e){d:Df}(hm:Ye d)(ho:ok d=true)(hl:g.length<20)(hn:zz g (zY d)=none)(hk:d.k≠0):(zt ok ty g d=94∧Z6 ty g d.v=none)∨(zt ok ty g d=0∧Z6 ty g d.v=some (enD g d)):=by rw[zcy hg (Re hm hk).2 hk];unfold zt;rw[if_neg (by simp[ho]),if_neg (by omega),if_neg (by simp[hn]),if_neg hk];cases YV ty g d.v;·{right;simp};left;simp
open Go Go.RowKit
section
variable {α : Type} {rd : α → List Value} {S : Nat}
def SlG(W:World)(A:Option Addr)(S:Nat)(rd:α→List Value)(xs:List α):Prop:=xs=[]∨∃b off,A=some ⟨b,off,none⟩∧b<W.heap.size∧∀i x,xs[i]?=some x→∀j u,(rd x)[j]?=some u→W.cell? ⟨b,off+i*S+j,none⟩=some u
theorem SlG.after{w w':World}{A:Option Addr}{xs:List α}(h:SlG w A S rd xs)(hb:Below w.heap.size w w'):SlG w' A S rd xs:=by rcases h with h|⟨b,off,hA,hlt,h⟩;·{exact .inl h};exact .inr ⟨b,off,hA,zgC hlt hb.size,fun i x hx j u hu=>(hb.cell hlt).trans (h i x hx j u hu)⟩
theorem SlG.alloc{w:World}{A:Option Addr}{xs:List α}(h:SlG w A S rd xs)(o:Obj):SlG (w.alloc o) A S rd xs:=h.after (zb w o)
theorem W8(hl:∀x,(rd x).length=S):∀(xs:List α)(i j:Nat)(x:α),xs[i]?=some x→j<S→(xs.flatMap rd)[i*S+j]?=(rd x)[j]?|[],i,j,x,h,_=>by simp at h|y::r,0,j,x,h,hj=>by simp at h;subst h;rw[zgj,Nat.zero_mul,zfR,List.getElem?_append_left (by rw[hl];exact hj)]|y::r,i+1,j,x,h,hj=>by rw[zgj,List.getElem?_append_right (by rw[hl,Nat.succ_mul];omega),hl,show(i+1)*S+j-S=i*S+j by rw[Nat.succ_mul];omega];exact W8 hl r i j x (by simpa using h) hj
theorem Yv(hl:∀x,(rd x).length=S):∀xs:List α,(xs.flatMap rd).length=xs.length*S|[]=>by simp|x::r=>by rw[zgj,zf4,hl,Yv hl r,zfO,Nat.succ_mul];omega
theorem SlG.flat{w:World}{xs:List α}{b off:Nat}(hl:∀x,(rd x).length=S)(hS:0<S)(h:∀i x,xs[i]?=some x→∀j u,(rd x)[j]?=some u→w.cell? ⟨b,off+i*S+j,none⟩=some u):∀j u,(xs.flatMap rd)[j]?=some u→w.cell? ⟨b,off+j,none⟩=some u:=by intro j u hj;have hlt:j<xs.length*S:=by{have:=(zgA.1 hj).1;rwa[Yv hl]at this};have hi:j/S<xs.length:=(Nat.div_lt_iff_lt_mul hS).2 hlt;have hx:xs[j/S]?=some xs[j/S]:=zgo hi;have e:j/S*S+j%S=j:=by{rw[Nat.mul_comm];exact Nat.div_add_mod j S};have h1:=W8 hl xs (j/S) (j%S) _ hx (Nat.mod_lt _ hS);rw[e]at h1;have h2:=h (j/S) _ hx (j%S) u (h1.symm.trans hj);rwa[zfP,e]at h2
theorem SlG.new{w:World}{cs:Array Value}{E:TypeId}(hl:∀x,(rd x).length=S)(xs:List α)(h:cs=(xs.flatMap rd).toArray):SlG (w.alloc (.cells cs E)) (some ⟨w.heap.size,0,none⟩) S rd xs:=by subst h;refine .inr ⟨w.heap.size,0,rfl,by simp,fun i x hx j u hu=>?_⟩;have e0:(w.alloc (.cells (xs.flatMap rd).toArray E)).heap[w.heap.size]?=some (.cells (xs.flatMap rd).toArray E (0,0)):=by{show(w.heap.push _)[w.heap.size]?=_;simp};have hj:j<S:=by{have:=(zgA.1 hu).1;rwa[hl]at this};simp only[World.cell?,e0,zgD,zfr,if_false,zgE];rw[zfR,W8 hl xs i j x hx hj];exact hu
structure VC (P : Program) (T E : TypeId) (S bytes : Nat) (z : Value) (rd : α → List Value) : Prop where
 under : P.underlying T = some (.slice E)
 info : (P.info? E).map (fun i => (i.zero, i.size, i.bytes)) = some (some z, S, bytes)
 zs : z.cells.size = S
 pos : 0 < S
 len : ∀ x, (rd x).length = S
 one : ∀ x u, u ∈ rd x → u.oneCell' = true
def zk(w:World)(B:Nat)(E:TypeId)(S:Nat)(rd:α→List Value)(v:Value)(xs:List α):Prop:=w.ownsRow B E S v xs.length (xs.flatMap rd)
theorem zk.nil(w:World)(B:Nat)(E:TypeId):zk w B E S rd (.slice none 0 0) []:=World.ownsRow_nil w B E S
theorem zk.made(w:World)(B:Nat)(E:TypeId)(cur:Array Value)(cap:Nat)(hB:B≤w.heap.size)(hm:cap≤maxLen)(hs:cur.size=cap*S):zk (w.alloc (.cells cur E)) B E S rd (.slice (some ⟨w.heap.size,0,none⟩) 0 cap) []:=World.ownsRow_made w cur cap hB hm hs
theorem zk.lt{w:World}{B:Nat}{E:TypeId}{v:Value}{xs:List α}(h:zk w B E S rd v xs):∀k,v.ownBlock=some k→B≤k∧k<w.heap.size:=fun k hk=>World.ownsRow.lt h k hk
theorem zk.same{w w':World}{B:Nat}{E:TypeId}{v:Value}{xs:List α}(h:zk w B E S rd v xs)(hb:∀k,v.ownBlock=some k→w'.heap[k]?=w.heap[k]?):zk w' B E S rd v xs:=by obtain⟨h1,h2⟩:=h;refine⟨h1,?_⟩;rcases h2 with h2|⟨g',cap,cur,hv,hB,hh,h3⟩;·{exact .inl h2};exact .inr ⟨g',cap,cur,hv,hB,(hb g' (by rw[hv];rfl)).trans hh,h3⟩
theorem zk.after{w w':World}{B:Nat}{E:TypeId}{v:Value}{xs:List α}(h:zk w B E S rd v xs)(hb:Below w.heap.size w w'):zk w' B E S rd v xs:=h.same fun k hk=>hb.block k (h.lt k hk).2
theorem zk.alloc{w:World}{B:Nat}{E:TypeId}{v:Value}{xs:List α}(h:zk w B E S rd v xs)(o:Obj):zk (w.alloc o) B E S rd v xs:=h.after (zb w o)
theorem zk.mono{w:World}{B B':Nat}{E:TypeId}{v:Value}{xs:List α}(h:zk w B E S rd v xs)(hB:B'≤B):zk w B' E S rd v xs:=by obtain⟨h1,h2⟩:=h;refine⟨h1,?_⟩;rcases h2 with h2|⟨g',cap,cur,hv,hb,h3⟩;·{exact .inl h2};exact .inr ⟨g',cap,cur,hv,by omega,h3⟩
theorem zk.sl{w:World}{B:Nat}{E:TypeId}{v:Value}{xs:List α}(hl:∀x,(rd x).length=S)(h:zk w B E S rd v xs):∃A c,v= .slice A xs.length c∧xs.length≤c∧c≤maxLen∧SlG w A S rd xs:=by rcases h.2 with⟨rfl,hn⟩|⟨g,cap,cur,rfl,hB,hh,hle,hm,_⟩;·{obtain rfl:xs=[]:=zgF hn;exact⟨none,0,rfl,zfm _,zgg _,.inl rfl⟩};refine⟨some ⟨g,0,none⟩,cap,rfl,hle,hm,.inr ⟨g,0,rfl,(h.lt g rfl).2,fun i x hx j u hu=>?_⟩⟩;have hj:j<S:=by{have:=(zgA.1 hu).1;rwa[hl]at this};have:=zgG (g:=g) h rfl (i*S+j) u ((W8 hl xs i j x hx hj).trans hu);rwa[zgH,←zfP]at this
theorem zk.isSlice{w:World}{B:Nat}{E:TypeId}{v:Value}{xs:List α}(h:zk w B E S rd v xs):∃A c,v= .slice A xs.length c:=by rcases h.2 with⟨rfl,hn⟩|⟨g,cap,cur,rfl,_⟩;·{exact⟨none,0,by rw[hn]⟩};exact⟨_,cap,rfl⟩
variable {P : Program} {T E : TypeId} {bytes : Nat} {z : Value}
theorem VC.parts(h:VC P T E S bytes z rd):∃i:TypeInfo,P.info? E=some i∧i.zero=some z∧i.size=S∧i.bytes=bytes:=by have hi:=h.info;cases e:P.info? E with|none=>rw[e]at hi;(cases hi)|some i=>rw[e]at hi;simp at hi;exact⟨i,rfl,hi.1,hi.2.1,hi.2.2⟩
theorem Us(he:VC P T E S bytes z rd)(w:World)(v:Value)(B c:Nat)(ty:TypeId)(xs:List α)(h:zk w B E S rd v xs):(Builtin.append_ #[T,T] ty #[v,.slice none 0 c]).run P w= .ok v w:=by obtain⟨i0,hi,hz0,hz1,hz2⟩:=he.parts;rcases h.2 with⟨rfl,_⟩|⟨g,cap,cur,rfl,_,_,hnc,_⟩;·{simp[Builtin.append_,run_underlying he.under,sizeOf,typeInfo,hi,Builtin.lenOf,Builtin.firstCells]};simp[Builtin.append_,run_underlying he.under,sizeOf,typeInfo,hi,Builtin.lenOf,Builtin.firstCells,hnc,storeCells]
theorem zp{ops:Array Oper}{rest:List Oper}{o:Oper}{a:Act}{Q:Exit→Act→World→Prop}{w:World}(he:VC P T E S bytes z rd)(hgd:o.guard=none)(s x:Operand)(ho:o.op= .call {callee:= .builtin .append,args:=#[s,x],argTypes:=#[T,T]})(B:Nat)(v:Value)(xs ys:List α)(A:Option Addr)(n c:Nat)(hs:a.eval s=v)(hb:zk w B E S rd v xs)(hx:a.eval x= .slice A n c)(hn:ys.length=n)(hsl:SlG w A S rd ys)(hmax:xs.length+ys.length≤maxLen)(hbytes:(xs.length+ys.length)*bytes≤140737488355328)(hB:B≤w.heap.size)(h:∀v' w',zk w' B E S rd v' (xs++ys)→w.grownBy w' v.ownBlock→wpList P ops Q rest (a.put o.dst v') w'):wpList P ops Q (o::rest) a w:=by obtain⟨i0,hi,hz0,hz1,hz2⟩:=he.parts;subst hn;have some_case:∀(ad:Addr),A=some ad→(∀j u,(ys.flatMap rd)[j]?=some u→w.cell? (ad.add j)=some u)→wpList P ops Q (o::rest) a w:=by{intro ad hA hcells;subst hA;refine wpList_append_own_at _ hgd s x T ho B E i0 z S bytes he.under hi hz0 hz1 hz2 he.zs he.pos v xs.length (xs.flatMap rd) hs hb ad ys.length c (ys.flatMap rd) hx (Yv he.len ys) hcells (fun u hu=>by obtain⟨q,_,hq⟩:=zgI.1 hu;exact he.one q u hq) hmax hbytes hB ?_;intro v' w' hown' hgrow _ _;refine h v' w' ?_ hgrow;unfold zk;rw[zgJ,zf4];exact hown'};rcases hsl with rfl|⟨b,off,hA,hlt,hc⟩;·{cases A with|some ad=>(exact some_case ad rfl (fun j u hj=>by simp at hj))|none=>refine wpList_plain hgd fun K hK=>?_;have hr:=Us he w v B c o.type xs hb;unfold Oper.wp execOp;have hx':a.eval x= .slice none 0 c:=hx;simp only[ho,resolve,invoke,builtin,zfV,zfW,zfX,List.map_toArray,zfx,zgK,hs,hx',hr];exact hK _ _ (h v w (by rw[zfQ];exact hb) (World.grownBy.refl w _))};refine some_case ⟨b,off,none⟩ hA fun j u hj=>?_;rw[zgH];exact SlG.flat he.len he.pos hc j u hj
theorem xy{ops:Array Oper}{o:Oper}{a:Act}{w:World}{K:Act→World→Prop}{Q:Exit→Act→World→Prop}{F:Prop}(he:VC P T E S bytes z rd)(hgd:o.guard=none)(s y:Operand)(ho:o.op= .call {callee:= .builtin .append,args:=#[s,y],argTypes:=#[T,T]})(B:Nat)(v:Value)(xs ys:List α)(hs:a.eval s=v)(hb:zk w B E S rd v xs)(A:Option Addr)(n c:Nat)(hy:a.eval y= .slice A n c)(hn:ys.length=n)(hn0:ys≠[])(hsl:SlG w A S rd ys)(hmax:xs.length+ys.length≤maxLen)(hbytes:(xs.length+ys.length)*bytes≤140737488355328)(hB:B≤w.heap.size)(h:∀g' cap w',zk w' B E S rd (.slice (some ⟨g',0,none⟩) (xs.length+ys.length) cap) (xs++ys)→w.grownBy w' v.ownBlock→K (a.put o.dst (.slice (some ⟨g',0,none⟩) (xs.length+ys.length) cap)) w'):if Region.wanted o (yielded ops a.tmps)=true then Oper.wp P o a w K Q else F:=by obtain⟨i0,hi,hz0,hz1,hz2⟩:=he.parts;subst hn;rcases hsl with h0|⟨b,off,rfl,hlt,hc⟩;·{exact absurd h0 hn0};refine step_append_lies w hgd s y T ho B E i0 z S bytes he.under hi hz0 hz1 hz2 he.zs he.pos v xs.length (xs.flatMap rd) hs hb ⟨b,off,none⟩ ys.length c (ys.flatMap rd) hy (Yv he.len ys) (fun j u hj=>by rw[zgH];exact SlG.flat he.len he.pos hc j u hj) (fun u hu=>by obtain⟨q,_,hq⟩:=zgI.1 hu;exact he.one q u hq) (zgu.2 hn0) hmax hbytes hB _ rfl ?_;intro g' cap w' hown' hgrow _ _;refine h g' cap w' ?_ hgrow;unfold zk;rw[zgJ,zf4];exact hown'
end
structure Hd where
 A : Option Addr
 n : Nat
 c : Nat
 xs : List Val
def rdV(x:Val):List Value:=[.int .i64 x.k,.int .i64 x.n,.string x.s]
def rdI(x:Int):List Value:=[.int .i64 x]
def rdB(b:Bool):List Value:=[.bool b]
def rdS(l:List UInt8):List Value:=[.string ⟨l.toArray⟩]
theorem iOk:VC Tryz.prog 33 3 1 8 (.int .i64 0) rdI where under:=Tryz.underlying33;info:=by{kernel_rfl};zs:=rfl;pos:=by{decide};len:=fun _=>rfl;one:=fun x u hu=>by simp[rdI]at hu;rcases hu with rfl;rfl
theorem bOk:VC Tryz.prog 42 4 1 1 (.bool false) rdB where under:=Tryz.underlying42;info:=by{kernel_rfl};zs:=rfl;pos:=by{decide};len:=fun _=>rfl;one:=fun x u hu=>by simp[rdB]at hu;rcases hu with rfl;rfl
theorem SlG.at1{α:Type}{rd:α→List Value}{w:World}{A:Option Addr}{xs:List α}(h:SlG w A 1 rd xs){k:Nat}(hk:k<xs.length):∃b off x,A=some ⟨b,off,none⟩∧b<w.heap.size∧xs[k]?=some x∧∀u,(rd x)[0]?=some u→w.cell? ⟨b,off+k,none⟩=some u:=by rcases h with rfl|⟨b,off,hA,hlt,h⟩;·{simp at hk};refine⟨b,off,xs[k],hA,hlt,zgo hk,fun u hu=>?_⟩;have:=h k xs[k] (zgo hk) 0 u hu;rwa[zgL,zgM]at this
section
variable {α : Type} {rd : α → List Value} {S N : Nat}
theorem NS{P:Program}{T E:TypeId}{bytes:Nat}{z:Value}(he:VC P T E S bytes z rd)(m:Nat)(hb:bytes*m≤281474976710656)(hm:m≤maxLen):∃cs:Array Value,cs.size=m*S∧∀w:World,(Instr.makeSlice T (.int .i64 (m:Int)) (.int .i64 (m:Int))).run P w= .ok (.slice (some ⟨w.heap.size,0,none⟩) m m) (w.alloc (.cells cs E)):=by obtain⟨i0,hi,hz0,hz1,hz2⟩:=he.parts;refine⟨madeCells z.cells (m*S),size_madeCells _ _,fun w=>?_⟩;have h63:(m:Int)≤9223372036854775807:=by{have h:=hm;simp[maxLen]at h;omega};have hb':(i0.bytes:Int)*(m:Int)≤281474976710656:=by{rw[hz2];have h:((bytes*m:Nat):Int)≤281474976710656:=by{omega};rwa[Int.natCast_mul]at h};have hr:=run_make (P:=P) w T E i0 z he.under hi hz0 .i64 .i64 m m (by omega) (Int.le_refl _) hb' h63;simp only[zgi,hz1]at hr;exact hr
theorem SlG.newAt{w:World}{cs:Array Value}{E:TypeId}{b:Nat}(hb:w.heap.size=b)(hl:∀x,(rd x).length=S)(xs:List α)(h:cs=(xs.flatMap rd).toArray):SlG (w.alloc (.cells cs E)) (some ⟨b,0,none⟩) S rd xs:=by subst hb;exact SlG.new hl xs h
end
theorem za{w a b:World}(h:Below w.heap.size w a)(g:Below a.heap.size a b):Below w.heap.size w b:=h.trans (g.mono h.size)
theorem zA{w a:World}(h:Below w.heap.size w a)(o:Obj):Below w.heap.size w (a.alloc o):=h.alloc h.size o
structure Sx (α : Type) where
 A : Option Addr
 n : Nat
 c : Nat
 xs : List α
abbrev Sx.v{α:Type}(h:Sx α):Value:= .slice h.A h.n h.c
structure Sx.In {α : Type} (w : World) (S : Nat) (rd : α → List Value) (h : Sx α) : Prop where
 len : h.xs.length = h.n
 max : h.n ≤ maxLen
 sl : SlG w h.A S rd h.xs
theorem Sx.In.after{α:Type}{w w':World}{S:Nat}{rd:α→List Value}{h:Sx α}(hi:h.In w S rd)(hb:Below w.heap.size w w'):h.In w' S rd:=⟨hi.len,hi.max,hi.sl.after hb⟩
theorem SlG.atS{α:Type}{rd:α→List Value}{S:Nat}{w:World}{A:Option Addr}{xs:List α}(h:SlG w A S rd xs){k:Nat}(hk:k<xs.length):∃b off x,A=some ⟨b,off,none⟩∧b<w.heap.size∧xs[k]?=some x∧∀j u,(rd x)[j]?=some u→w.cell? ⟨b,off+k*S+j,none⟩=some u:=by rcases h with rfl|⟨b,off,hA,hlt,h⟩;·{simp at hk};have hx:=zgo hk;exact⟨b,off,xs[k],hA,hlt,hx,h k xs[k] hx⟩
def rdN(x:Nd):List Value:=[.int .i64 x.op,.int .i64 x.n,.int .i64 x.v.k,.int .i64 x.v.n,.string x.v.s]
abbrev Nd.w(x:Nd):Value:= .agg #[.int .i64 x.op,.int .i64 x.n,.int .i64 x.v.k,.int .i64 x.v.n,.string x.v.s]
def yW(x:Cl):List Value:=[.string x.name,.int .i64 x.kind,.bool x.nul,.bool x.uni,.string x.ref,.int .i64 x.act]
abbrev Cl.w(x:Cl):Value:= .agg #[.string x.name,.int .i64 x.kind,.bool x.nul,.bool x.uni,.string x.ref,.int .i64 x.act]
def Zw(x:Ag):List Value:=[.int .i64 x.fn,.int .i64 x.col]
abbrev Ag.w(x:Ag):Value:= .agg #[.int .i64 x.fn,.int .i64 x.col]
def rdX(x:Sx Nd):List Value:=[.slice x.A x.n x.c]
structure Tm where
 name : ByteArray
 cols : Sx Cl
 chks : Sx (Sx Nd)
structure Vm where
 name : ByteArray
 frm : ByteArray
 wth : ByteArray
 on0 : Int
 on1 : Int
 whr : Sx Nd
 pick : Sx Int
 grp : Bool
 aggs : Sx Ag
structure Dm where
 k : Int
 t : Tm
 v : Vm
abbrev Tm.w(x:Tm):Value:= .agg #[.string x.name,.slice x.cols.A x.cols.n x.cols.c,.slice x.chks.A x.chks.n x.chks.c]
abbrev Vm.w(x:Vm):Value:= .agg #[.string x.name,.string x.frm,.string x.wth,.int .i64 x.on0,.int .i64 x.on1,.slice x.whr.A x.whr.n x.whr.c,.slice x.pick.A x.pick.n x.pick.c,.bool x.grp,.slice x.aggs.A x.aggs.n x.aggs.c]
def rdD(x:Dm):List Value:=[.int .i64 x.k,.string x.t.name,.slice x.t.cols.A x.t.cols.n x.t.cols.c,.slice x.t.chks.A x.t.chks.n x.t.chks.c,.string x.v.name,.string x.v.frm,.string x.v.wth,.int .i64 x.v.on0,.int .i64 x.v.on1,.slice x.v.whr.A x.v.whr.n x.v.whr.c,.slice x.v.pick.A x.v.pick.n x.v.pick.c,.bool x.v.grp,.slice x.v.aggs.A x.v.aggs.n x.v.aggs.c]
abbrev Dm.w(x:Dm):Value:= .agg #[.int .i64 x.k,.string x.t.name,.slice x.t.cols.A x.t.cols.n x.t.cols.c,.slice x.t.chks.A x.t.chks.n x.t.chks.c,.string x.v.name,.string x.v.frm,.string x.v.wth,.int .i64 x.v.on0,.int .i64 x.v.on1,.slice x.v.whr.A x.v.whr.n x.v.whr.c,.slice x.v.pick.A x.v.pick.n x.v.pick.c,.bool x.v.grp,.slice x.v.aggs.A x.v.aggs.n x.v.aggs.c]
def Tm.tb(x:Tm):Tb:=⟨x.name,x.cols.xs,x.chks.xs.map (·.xs)⟩
def Vm.vw(x:Vm):Vw:=⟨x.name,x.frm,x.wth,x.on0,x.on1,x.whr.xs,x.pick.xs,x.grp,x.aggs.xs⟩
def Dm.df(x:Dm):Df:=⟨x.k,x.t.tb,x.v.vw⟩
structure Tm.In (w : World) (x : Tm) : Prop where
 cols : x.cols.In w 6 yW
 chks : x.chks.In w 1 rdX
 each : ∀ e ∈ x.chks.xs, e.In w 5 rdN
structure Vm.In (w : World) (x : Vm) : Prop where
 whr : x.whr.In w 5 rdN
 pick : x.pick.In w 1 rdI
 aggs : x.aggs.In w 2 Zw
structure Dm.In (w : World) (x : Dm) : Prop where
 t : x.t.In w
 v : x.v.In w
theorem Tm.In.after{w w':World}{x:Tm}(h:x.In w)(hb:Below w.heap.size w w'):x.In w':=⟨h.cols.after hb,h.chks.after hb,fun e he=>(h.each e he).after hb⟩
theorem Vm.In.after{w w':World}{x:Vm}(h:x.In w)(hb:Below w.heap.size w w'):x.In w':=⟨h.whr.after hb,h.pick.after hb,h.aggs.after hb⟩
theorem Dm.In.after{w w':World}{x:Dm}(h:x.In w)(hb:Below w.heap.size w w'):x.In w':=⟨h.t.after hb,h.v.after hb⟩
instance:DecidableEq ByteArray:=fun a b=>decidable_of_iff (a.toList=b.toList) ⟨zv,fun h=>by rw[h]⟩
instance:DecidableEq Nd:=fun _ _=>decidable_of_iff _ Nd.eq_iff
instance:DecidableEq Cl:=fun a b=>decidable_of_iff (a.name=b.name∧a.kind=b.kind∧a.nul=b.nul∧a.uni=b.uni∧a.ref=b.ref∧a.act=b.act) (by cases a;cases b;simp)
instance:DecidableEq Ag:=fun a b=>decidable_of_iff (a.fn=b.fn∧a.col=b.col) (by cases a;cases b;simp)
instance:DecidableEq Tb:=fun a b=>decidable_of_iff (a.name=b.name∧a.cols=b.cols∧a.checks=b.checks) (by cases a;cases b;simp)
instance:DecidableEq Vw:=fun a b=>decidable_of_iff (a.name=b.name∧a.frm=b.frm∧a.wth=b.wth∧a.on0=b.on0∧a.on1=b.on1∧a.whr=b.whr∧a.pick=b.pick∧a.grp=b.grp∧a.aggs=b.aggs) (by cases a;cases b;simp)
instance:DecidableEq Df:=fun a b=>decidable_of_iff (a.k=b.k∧a.t=b.t∧a.v=b.v) (by cases a;cases b;simp)
def Nd.eqB(a b:Nd):Bool:=decide (a=b)
def Cl.eqB(a b:Cl):Bool:=decide (a=b)
def Ag.eqB(a b:Ag):Bool:=decide (a=b)
theorem Ut(w:World)(k n vk vn k' n' vk' vn':Int)(vs vs':ByteArray):(binOp .neq 82 (.agg #[.int .i64 k,.int .i64 n,.int .i64 vk,.int .i64 vn,.string vs]) (.agg #[.int .i64 k',.int .i64 n',.int .i64 vk',.int .i64 vn',.string vs'])).run Tryz.prog w= .ok (.bool !(Nd.eqB ⟨k,n,⟨vk,vn,vs⟩⟩ ⟨k',n',⟨vk',vn',vs'⟩⟩)) w:=by have e:(Op.equalIn 10000 82 (.agg #[.int .i64 k,.int .i64 n,.int .i64 vk,.int .i64 vn,.string vs]) (.agg #[.int .i64 k',.int .i64 n',.int .i64 vk',.int .i64 vn',.string vs'])).run Tryz.prog w= .ok (decide ((⟨k,n,⟨vk,vn,vs⟩⟩:Nd)=⟨k',n',⟨vk',vn',vs'⟩⟩)) w:=by{simp[go_sem,Tryz.underlying82,Tryz.underlying80,Tryz.underlying3,Tryz.underlying9];have hs:(vs.toList=vs'.toList)↔vs=vs':=⟨zv,fun h=>by rw[h]⟩;by_cases h1:k=k'<;>by_cases h2:n=n'<;>by_cases h3:vk=vk'<;>by_cases h4:vn=vn'<;>by_cases h5:vs=vs'<;>simp[hs,h1,h2,h3,h4,h5]};rw[run_neq_struct,e];rfl
theorem Uu(w:World)(a b k k' ac ac':_)(nu un nu' un':Bool)(r r':ByteArray):(binOp .neq 41 (.agg #[.string a,.int .i64 k,.bool nu,.bool un,.string r,.int .i64 ac]) (.agg #[.string b,.int .i64 k',.bool nu',.bool un',.string r',.int .i64 ac'])).run Tryz.prog w= .ok (.bool !(Cl.eqB ⟨a,k,nu,un,r,ac⟩ ⟨b,k',nu',un',r',ac'⟩)) w:=by have e:(Op.equalIn 10000 41 (.agg #[.string a,.int .i64 k,.bool nu,.bool un,.string r,.int .i64 ac]) (.agg #[.string b,.int .i64 k',.bool nu',.bool un',.string r',.int .i64 ac'])).run Tryz.prog w= .ok (decide ((⟨a,k,nu,un,r,ac⟩:Cl)=⟨b,k',nu',un',r',ac'⟩)) w:=by{simp[go_sem,Tryz.underlying41,Tryz.underlying3,Tryz.underlying4,Tryz.underlying9];have hs:∀x y:ByteArray,(x.toList=y.toList)↔x=y:=fun x y=>⟨zv,fun h=>by rw[h]⟩;by_cases h1:a=b<;>by_cases h2:k=k'<;>by_cases h3:nu=nu'<;>by_cases h4:un=un'<;>by_cases h5:r=r'<;>by_cases h6:ac=ac'<;>simp[hs,h1,h2,h3,h4,h5,h6]};rw[run_neq_struct,e];rfl
theorem Uv(w:World)(f c f' c':Int):(binOp .neq 72 (.agg #[.int .i64 f,.int .i64 c]) (.agg #[.int .i64 f',.int .i64 c'])).run Tryz.prog w= .ok (.bool !(Ag.eqB ⟨f,c⟩ ⟨f',c'⟩)) w:=by have e:(Op.equalIn 10000 72 (.agg #[.int .i64 f,.int .i64 c]) (.agg #[.int .i64 f',.int .i64 c'])).run Tryz.prog w= .ok (decide ((⟨f,c⟩:Ag)=⟨f',c'⟩)) w:=by{simp[go_sem,Tryz.underlying72,Tryz.underlying3];by_cases h1:f=f'<;>by_cases h2:c=c'<;>simp[h1,h2]};rw[run_neq_struct,e];rfl
section
variable {α : Type} {rd : α → List Value} {S : Nat} {P : Program} {T E : TypeId} {bytes : Nat} {z : Value}
end
end Go.Proofs.YthjjpdjdnhjdbaaGreatDoor
