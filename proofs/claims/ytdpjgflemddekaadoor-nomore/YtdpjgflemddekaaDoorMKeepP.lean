/- What the keeping statements' fixed calls come to, plainly: on the document's lists. Nothing of the program's text. -/
import Derived.Test.YtdpjgflemddekaaDoorMInvF
import Derived.Test.YtdpjgflemddekaaDoorMLoadA
import Derived.Test.YtdpjgflemddekaaDoorMCodeZ1
import Derived.KernelRfl
set_option maxRecDepth 100000
set_option maxHeartbeats 4000000
namespace Go.Proofs.YtdpjgflemddekaaDoor
def bz4:jh:=⟨po,[⟨0,6⟩],[⟨64,1,0,0,0,0⟩]⟩
def ql:RS:=⟨bz4,[],fun _=>0,[]⟩
theorem bz7 {K:a_}(h:∀b,K.qs b=none):w_ [] K:=
 ⟨fun b y e=>(by rw [h b] at e;cases e),fun _ hw=>(by cases hw),fun _ hw=>(by cases hw),List.nodup_nil⟩
theorem au_:Ag ql ⟨nu,[]⟩:=⟨bq7,rfl,fun _ _=>rfl,bz7 (fun _=>rfl)⟩
def aft (S:RS)(th:Int)(c:Cl):RS:=(ew S th c []).2.2
def sc1:Cl:=⟨1,[0],[5],1,6,1,0,0,0,0⟩
def sc2:Cl:=⟨1,[5],[6],5,2,1,0,0,0,0⟩
def sc3:Cl:=⟨10,[6],[],0,0,0,0,0,9,0⟩
def sc4:Cl:=⟨2,[6],[7],0,0,0,1,0,0,0⟩
def sc5:Cl:=⟨5,[7],[],0,0,0,0,0,0,0⟩
def sc6:Cl:=⟨9,[6],[],0,0,0,0,0,0,0⟩
def sc7:Cl:=⟨6,[5],[],0,0,0,0,0,0,0⟩
def su1:RS:=aft ql 64 sc1
def su2:RS:=aft su1 64 sc2
def su3:RS:=aft su2 64 sc3
def su4:RS:=aft su3 64 sc4
def su5:RS:=aft su4 64 sc5
def su6:RS:=aft su5 64 sc6
def su7:RS:=aft su6 64 sc7
def su8:RS:=aft su7 64 sc2
def su9:RS:=aft su8 64 sc6
theorem b65:(ew ql 64 sc1 []).2.1=0:=by kernel_rfl
theorem b63:(ew su1 64 sc2 []).2.1=0:=by kernel_rfl
theorem b56:(ew su2 64 sc3 []).2.1=0:=by kernel_rfl
theorem b69:su3.ws 128=9:=by kernel_rfl
theorem b54:(ew su3 64 sc4 []).2.1=0:=by kernel_rfl
theorem b58:(ew su4 64 sc5 []).2.1=0:=by kernel_rfl
theorem b19:(ew su5 64 sc6 []).1=9/\(ew su5 64 sc6 []).2.1=0:=⟨by kernel_rfl,by kernel_rfl⟩
theorem b62:(ew su6 64 sc7 []).2.1=0:=by kernel_rfl
theorem b64:(ew su7 64 sc2 []).2.1=0:=by kernel_rfl
theorem b21:(ew su8 64 sc6 []).1=0/\(ew su8 64 sc6 []).2.1=0:=⟨by kernel_rfl,by kernel_rfl⟩
def tcE:Cl:=⟨1,[0],[3],3,2,1,0,0,0,0⟩
def tcT:Cl:=⟨1,[0],[4],4,4,6,0,0,0,0⟩
def tcM (i:Nat)(b:Int):Cl:=⟨3,[3],[10+i],0,0,0,2,b,0,0⟩
def tcS (i:Nat)(v:Int):Cl:=⟨7,[10+i],[],0,0,0,0,0,v,0⟩
def tcR:Cl:=⟨8,[3],[],0,0,0,0,0,0,0⟩
def tcV:Cl:=⟨6,[3],[],0,0,0,0,0,0,0⟩
def tcD:Cl:=⟨5,[3],[],0,0,0,0,0,0,0⟩
def tkL (b:Nat->Int)(m:Nat):List bo:=
 [⟨0,0,1,0,10,7,0,192,0⟩,⟨0,1,2,0,6,7,0,0,1⟩,⟨0,2,4,64,4,7,0,0,1⟩,⟨0,3,3,80,2,7,0,0,1⟩]++(List.range m).map (fun (j:Nat)=>(⟨0,10+j,3,80,2,2,b j,0,2⟩:bo))++(List.range 6).map (fun (j:Nat)=>(⟨0,4+j,4,96+16*j,4,7,0,0,1⟩:bo))
def tkT (b v:Nat->Int)(n r:Nat):List gh:=
 ⟨64,1,0,match r with | 0=>0 | r+1=>v r,match r with | 0=>0 | r+1=>b r,0⟩ :: (List.range 6).map (fun (j:Nat)=>(⟨96+16*j,if r<=j/\j<n then 2 else 1,0,0,0,0⟩:gh))
def tkQ (b v:Nat->Int)(n r:Nat):List Wt:=((List.range n).map (fun (j:Nat)=>(⟨80,96+16*j,true,v j,b j⟩:Wt))).drop r
def tkS (b v:Nat->Int)(m n r:Nat):RS:=⟨⟨tkL b m,[⟨0,6⟩],tkT b v n r⟩,[],fun _=>0,tkQ b v n r⟩
theorem b78:(ew ql 64 tcE []).2.1=0:=by kernel_rfl
theorem b83 (b v:Nat->Int):ew (aft ql 64 tcE) 64 tcT []=(0,0,tkS b v 0 0 0):=by kernel_rfl
theorem pi {S:RS}{t:gh}{c:Cl}{n ix n' ix':Int}{p:Nat}{e:bo}{th:Int}(hk:c.kind=3)(ht:S.R.T.find? (ao th)=some t)(hs:t.state=1)(hf:cp S.R.L S.R.N t.root c.at_=some (n,ix))(hi:S.R.L.findIdx? (fh n ix)=some p)(hp:S.R.L[p]?=some e)
 (h3:e.ty=3) (h0:e.badge=0) (hr:0<=c.rights/\c.rights<=7) (hb:1<=c.badge/\c.badge<=65535) (hf':cp S.R.L S.R.N t.root c.to=some (n',ix')) (hn:(S.R.L.find? (fh n' ix')).isSome=false) :
 ew S th c []=(0,0,{S with R:={S.R with L:=uf S.R.L p e.up {e with node:=n',index:=ix',rights:=fy e.rights c.rights,badge:=c.badge,up:=0}}}):=by
 have hc:fw S.R t.root c p e=(0,uf S.R.L p e.up {e with node:=n',index:=ix',rights:=fy e.rights c.rights,badge:=c.badge,up:=0}):=by
  unfold fw;rw [if_neg (by omega),if_neg (by omega),if_neg (by omega),hf'];simp only;rw [if_neg (by rw [hn];decide),if_neg (by omega),if_pos hk]
 unfold ew;rw [if_neg (by omega)];unfold dy;rw [ht];simp only;rw [if_neg (by omega),if_neg (by omega),if_neg (by omega),hf];simp only;rw [hi];simp only;rw [hp];simp only;rw [hc]
theorem bz9 (b v:Nat->Int)(i:Nat)(hi:i<6)(hb:1<=b i/\b i<=65535):ew (tkS b v i i 0) 64 (tcM i (b i)) []=(0,0,tkS b v (i+1) i 0):=by
 have e:i=0\/i=1\/i=2\/i=3\/i=4\/i=5:=by omega
 rcases e with rfl | rfl | rfl | rfl | rfl | rfl
 ·exact (pi (t:=⟨64,1,0,0,0,0⟩) (n:=0) (ix:=3) (p:=3) (e:=⟨0,3,3,80,2,7,0,0,1⟩) (n':=0) (ix':=10) rfl (by kernel_rfl) rfl (by kernel_rfl) (by kernel_rfl) (by kernel_rfl) rfl rfl (show (0:Int)<=2/\(2:Int)<=7 by decide) hb (by kernel_rfl) (by kernel_rfl)).trans (by kernel_rfl)
 ·exact (pi (t:=⟨64,1,0,0,0,0⟩) (n:=0) (ix:=3) (p:=3) (e:=⟨0,3,3,80,2,7,0,0,1⟩) (n':=0) (ix':=11) rfl (by kernel_rfl) rfl (by kernel_rfl) (by kernel_rfl) (by kernel_rfl) rfl rfl (show (0:Int)<=2/\(2:Int)<=7 by decide) hb (by kernel_rfl) (by kernel_rfl)).trans (by kernel_rfl)
 ·exact (pi (t:=⟨64,1,0,0,0,0⟩) (n:=0) (ix:=3) (p:=3) (e:=⟨0,3,3,80,2,7,0,0,1⟩) (n':=0) (ix':=12) rfl (by kernel_rfl) rfl (by kernel_rfl) (by kernel_rfl) (by kernel_rfl) rfl rfl (show (0:Int)<=2/\(2:Int)<=7 by decide) hb (by kernel_rfl) (by kernel_rfl)).trans (by kernel_rfl)
 ·exact (pi (t:=⟨64,1,0,0,0,0⟩) (n:=0) (ix:=3) (p:=3) (e:=⟨0,3,3,80,2,7,0,0,1⟩) (n':=0) (ix':=13) rfl (by kernel_rfl) rfl (by kernel_rfl) (by kernel_rfl) (by kernel_rfl) rfl rfl (show (0:Int)<=2/\(2:Int)<=7 by decide) hb (by kernel_rfl) (by kernel_rfl)).trans (by kernel_rfl)
 ·exact (pi (t:=⟨64,1,0,0,0,0⟩) (n:=0) (ix:=3) (p:=3) (e:=⟨0,3,3,80,2,7,0,0,1⟩) (n':=0) (ix':=14) rfl (by kernel_rfl) rfl (by kernel_rfl) (by kernel_rfl) (by kernel_rfl) rfl rfl (show (0:Int)<=2/\(2:Int)<=7 by decide) hb (by kernel_rfl) (by kernel_rfl)).trans (by kernel_rfl)
 ·exact (pi (t:=⟨64,1,0,0,0,0⟩) (n:=0) (ix:=3) (p:=3) (e:=⟨0,3,3,80,2,7,0,0,1⟩) (n':=0) (ix':=15) rfl (by kernel_rfl) rfl (by kernel_rfl) (by kernel_rfl) (by kernel_rfl) rfl rfl (show (0:Int)<=2/\(2:Int)<=7 by decide) hb (by kernel_rfl) (by kernel_rfl)).trans (by kernel_rfl)
theorem pj {S:RS}{t:gh}{c:Cl}{n ix:Int}{p:Nat}{e:bo}{th:Int}(hk:c.kind=7\/c.kind=8)(ht:S.R.T.find? (ao th)=some t)(hs:t.state=1)(hf:cp S.R.L S.R.N t.root c.at_=some (n,ix))(hi:S.R.L.findIdx? (fh n ix)=some p)(hp:S.R.L[p]?=some e):
 ew S th c []=(0,zx S th c e):=by
 unfold ew;rw [if_pos (by omega)];unfold ao9;rw [ht];simp only;rw [if_neg (by omega),hf];simp only;rw [hi];simp only;rw [hp];simp only;rw [if_pos hk]
theorem mq {S:RS}{b:Int}{c:Cl}{e:bo}(hk:c.kind=7)(ht:e.ty=3)(hr:bk6 e.rights 2=false)(hv:0<=c.value/\c.value<=4294967295)(hf:S.q.find? (j1 e.base false)=none):
 zx S b c e=(0,{S with R:={S.R with T:=setT b (stT 2) S.R.T},q:=S.q++[⟨e.base,b,true,c.value,e.badge⟩]}):=by
 unfold zx;rw [if_neg (by omega),hk,if_neg (by rw [if_neg (by decide),hr];decide),if_neg (by omega),show decide ((7:Int)≠7)=false from rfl,hf];rfl
theorem b10 (b v:Nat->Int)(i:Nat)(hi:i<6)(hv:0<=v i/\v i<=4294967295):ew (tkS b v (i+1) i 0) (96+16*i) (tcS i (v i)) []=(0,0,tkS b v (i+1) (i+1) 0):=by
 have e:i=0\/i=1\/i=2\/i=3\/i=4\/i=5:=by omega
 rcases e with rfl | rfl | rfl | rfl | rfl | rfl
 ·exact (pj (t:=⟨96,1,0,0,0,0⟩) (n:=0) (ix:=10) (p:=4) (e:=⟨0,10,3,80,2,2,b 0,0,2⟩) (.inl rfl) (by kernel_rfl) rfl (by kernel_rfl) (by kernel_rfl) (by kernel_rfl)).trans ((congrArg (Prod.mk (0:Int)) (mq rfl rfl (by kernel_rfl) hv (by kernel_rfl))).trans (by kernel_rfl))
 ·exact (pj (t:=⟨112,1,0,0,0,0⟩) (n:=0) (ix:=11) (p:=5) (e:=⟨0,11,3,80,2,2,b 1,0,2⟩) (.inl rfl) (by kernel_rfl) rfl (by kernel_rfl) (by kernel_rfl) (by kernel_rfl)).trans ((congrArg (Prod.mk (0:Int)) (mq rfl rfl (by kernel_rfl) hv (by kernel_rfl))).trans (by kernel_rfl))
 ·exact (pj (t:=⟨128,1,0,0,0,0⟩) (n:=0) (ix:=12) (p:=6) (e:=⟨0,12,3,80,2,2,b 2,0,2⟩) (.inl rfl) (by kernel_rfl) rfl (by kernel_rfl) (by kernel_rfl) (by kernel_rfl)).trans ((congrArg (Prod.mk (0:Int)) (mq rfl rfl (by kernel_rfl) hv (by kernel_rfl))).trans (by kernel_rfl))
 ·exact (pj (t:=⟨144,1,0,0,0,0⟩) (n:=0) (ix:=13) (p:=7) (e:=⟨0,13,3,80,2,2,b 3,0,2⟩) (.inl rfl) (by kernel_rfl) rfl (by kernel_rfl) (by kernel_rfl) (by kernel_rfl)).trans ((congrArg (Prod.mk (0:Int)) (mq rfl rfl (by kernel_rfl) hv (by kernel_rfl))).trans (by kernel_rfl))
 ·exact (pj (t:=⟨160,1,0,0,0,0⟩) (n:=0) (ix:=14) (p:=8) (e:=⟨0,14,3,80,2,2,b 4,0,2⟩) (.inl rfl) (by kernel_rfl) rfl (by kernel_rfl) (by kernel_rfl) (by kernel_rfl)).trans ((congrArg (Prod.mk (0:Int)) (mq rfl rfl (by kernel_rfl) hv (by kernel_rfl))).trans (by kernel_rfl))
 ·exact (pj (t:=⟨176,1,0,0,0,0⟩) (n:=0) (ix:=15) (p:=9) (e:=⟨0,15,3,80,2,2,b 5,0,2⟩) (.inl rfl) (by kernel_rfl) rfl (by kernel_rfl) (by kernel_rfl) (by kernel_rfl)).trans ((congrArg (Prod.mk (0:Int)) (mq rfl rfl (by kernel_rfl) hv (by kernel_rfl))).trans (by kernel_rfl))
theorem b06 (b v:Nat->Int)(n r:Nat)(hn:n<=6)(hr:r<n):ew (tkS b v n n r) 64 tcR []=(0,0,tkS b v n n (r+1)):=by
 have e:n=0\/n=1\/n=2\/n=3\/n=4\/n=5\/n=6:=by omega
 have e':r=0\/r=1\/r=2\/r=3\/r=4\/r=5:=by omega
 rcases e with rfl | rfl | rfl | rfl | rfl | rfl | rfl<;>rcases e' with rfl | rfl | rfl | rfl | rfl | rfl<;>first | (exfalso;omega) | (show _=_;kernel_rfl)
def tkZ (b v:Nat->Int)(n r:Nat):RS:=aft (aft (tkS b v n n r) 64 tcV) 64 tcD
theorem b44 (b v:Nat->Int)(n:Nat)(hn:n<=6)(l:Bool):
 (ew (tkS b v n n (if l then 0 else n)) 64 tcV []).2.1=0/\(ew (aft (tkS b v n n (if l then 0 else n)) 64 tcV) 64 tcD []).2.1=0/\
 ∀i,i<n->((tkZ b v n (if l then 0 else n)).R.T.find? (ao (96+16*i))).map gh.thd=some ⟨1,0,0,0,if l then 9 else 0⟩:=by
 have e:n=0\/n=1\/n=2\/n=3\/n=4\/n=5\/n=6:=by omega
 cases l<;>rcases e with rfl | rfl | rfl | rfl | rfl | rfl | rfl<;>refine ⟨by kernel_rfl,by kernel_rfl,fun i hi=>?_⟩<;>
 (have e':i=0\/i=1\/i=2\/i=3\/i=4\/i=5:=by omega
  rcases e' with rfl | rfl | rfl | rfl | rfl | rfl<;>first | (exfalso;omega) | (show _=_;kernel_rfl))
end Go.Proofs.YtdpjgflemddekaaDoor
namespace Go.Proofs.YtdpjgflemddekaaDoor
open Go.RowKit Go.Shelf
def KR (w0 w:World)(kb:Nat)(R:RS):Prop:=
 ∃S V,Ag R S/\(∀i,0<=R.ws i/\R.ws i<=4294967295)/\qq w kb S V/\(∀k,V.fd kb k->w0.heap.size<=k)/\Fr w0 w (fun _=>False)
theorem KR.next {w0 w w':World}{kb:Nat}{R:RS}(h:KR w0 w kb R)(hf:Fr w w' (fun _=>False)):KR w0 w' kb R:=by
 obtain ⟨S,V,h1,h2,h3,h4,h5⟩:=h;exact ⟨S,V,h1,h2,h3.frame hf (fun _ _=>id) (fun _=>False.elim),h4,h5.step hf (fun _=>False.elim)⟩
theorem KR.base {w0 w:World}{kb:Nat}{R:RS}(h:KR w0 w kb R):Fr w0 w (fun _=>False):=by
 obtain ⟨S,V,h1,h2,h3,h4,h5⟩:=h;exact h5
theorem zo {w:World}{b:Nat}{x:Int}{t:TypeId}(h:w.heap[b]?=some (.cells #[.int .i64 x] t (0,0))):c_ w (.slice (some ⟨b,0,none⟩) 1 1) [x]:=by
 refine ⟨_,_,rfl,fun _=>⟨b,0,rfl,fun i hi=>?_⟩⟩
 have:i=0:=by simpa using hi
 subst this;exact aa (o:=0) h rfl
theorem bq2 (w:World):c_ w (.slice none 0 0) []:=⟨none,0,rfl,fun h=>absurd h (by decide)⟩
theorem aw4 (w:World)(hgl:fm w):Calls Tryd.prog 11 #[] w fun e w'=>∃kb,e=.returned (.pointer (some ⟨kb,0,none⟩))/\KR w w' kb ql:=by
 refine (bt7 w hgl.n0 hgl.n1).mono ?_;rintro e w' ⟨kb,V,h1,h2,h3,h4,h5,h6⟩;have hfd:∀k,V.fd kb k->w.heap.size<=k:=by
  rintro k (e | e)
  ·exact h5 k e
  ·rw [h4] at e;cases e
 have:=hgl.lt;refine ⟨kb,h1,⟨nu,[]⟩,V,au_,fun _=>⟨Int.le_refl 0,(by decide:(0:Int)<=4294967295)⟩,⟨⟨h2,h3,?_,fun k hk=>by rw [h4] at hk;cases hk⟩,fm.fr hgl h6,fun k hk=>by have:=hfd k hk;omega⟩,hfd,h6⟩
 rw [h4];exact World.ownsRow_nil _ _ _ _
theorem KR.doB {w0 W1 W:World}{kb:Nat}{R:RS}(h:KR w0 W1 kb R)(hf:Fr W1 W (fun _=>False))(c:Cl)(th:Int){av tv bv:Value}{bs:List Bool}(hA:c_ W av c.at_)(hT:c_ W tv c.to)(hal:c.at_.length<=9000000000000000000)(htl:c.to.length<=9000000000000000000)
 (hac:∀A n cap,av=.slice A n cap->n<=cap) (htc:∀A n cap,tv=.slice A n cap->n<=cap) (hB:fj W bv bs)
 (fa:0<c.at_.length->∀k,av.ownBlock=some k->k<w0.heap.size\/W1.heap.size<=k) (ft:0<c.to.length->∀k,tv.ownBlock=some k->k<w0.heap.size\/W1.heap.size<=k) (fb:0<bs.length->∀k,bv.ownBlock=some k->k<w0.heap.size\/W1.heap.size<=k) :
 Calls Tryd.prog 12 (ie kb th c av tv bv) W
  fun e w'=>e=.returned (.tuple #[.int .i64 (ew R th c bs).1,.int .i64 (ew R th c bs).2.1])/\KR w0 w' kb (ew R th c bs).2.2/\Fr W w' (fun k=>w0.heap.size<=k/\k<W1.heap.size):=by
 obtain ⟨S,V,h1,h2,h3,h4,h5⟩:=h;have h3w:=h3.frame hf (fun _ _=>id) (fun _=>False.elim);have far:∀k,(k<w0.heap.size\/W1.heap.size<=k)->¬V.fd kb k:=fun k hk e=>by have:=h4 k e;have:=h3.lt e;omega
 refine (b25 S V kb c av tv bv bs th W ⟨⟨h3w,⟨_,h1⟩,hA,hT,hal,htl,hac,htc,fun h0 k hk=>far k (fa h0 k hk),fun h0 k hk=>far k (ft h0 k hk)⟩,hB,fun h0 k hk=>far k (fb h0 k hk)⟩ (fun i hi=>by rw [<- h1.ws i hi];exact h2 i)).mono ?_
 rintro e w' ⟨he,ho⟩;obtain ⟨g1,g2,g3,g4⟩:=od h1 th c bs;rw [<- g1,<- g2] at he;refine ⟨he,?_⟩;generalize (p_ S th c bs).2.2=S' at g3 ho;obtain ⟨V',a1,a4,a5⟩:=ho;exact ⟨⟨S',V',g3,bf5 R th c bs h2,a1,fun k hk=>(a5 k hk).elim (h4 k) (fun h=>Nat.le_trans (h5.step hf (fun _=>False.elim)).size h),(h5.step hf (fun _=>False.elim)).step a4 (fun k hk=>.inr (h4 k hk))⟩,a4.mono (fun k hk=>⟨h4 k hk,h3.lt hk⟩)⟩
theorem ka {b n c k:Nat}(hk:(Value.slice (some ⟨b,0,none⟩) n c).ownBlock=some k):b=k:=by simpa [Value.ownBlock] using hk
theorem KR.do2 {w0 W1 W:World}{kb bA bT:Nat}{R:RS}(h:KR w0 W1 kb R)(hf:Fr W1 W (fun _=>False))(c:Cl)(th a b:Int)(hca:c.at_=[a])(hcb:c.to=[b])(lA:W1.heap.size<=bA)(lT:W1.heap.size<=bT){t t':TypeId}
 (hA:W.heap[bA]?=some (.cells #[.int .i64 a] t (0,0))) (hT:W.heap[bT]?=some (.cells #[.int .i64 b] t' (0,0))) :
 Calls Tryd.prog 12 (ie kb th c (.slice (some ⟨bA,0,none⟩) 1 1) (.slice (some ⟨bT,0,none⟩) 1 1) (.slice none 0 0)) W
  fun e w'=>e=.returned (.tuple #[.int .i64 (ew R th c []).1,.int .i64 (ew R th c []).2.1])/\KR w0 w' kb (aft R th c):=by
 refine (h.doB hf c th (bs:=[]) (by rw [hca];exact zo hA) (by rw [hcb];exact zo hT) (by rw [hca];exact (by decide:1<=9000000000000000000)) (by rw [hcb];exact (by decide:1<=9000000000000000000)) (fun _ _ _ e=>by cases e;decide) (fun _ _ _ e=>by cases e;decide) (fj.none _ _ _) (fun _ k hk=>.inr (by rw [<- ka hk];exact lA)) (fun _ k hk=>.inr (by rw [<- ka hk];exact lT)) (fun h0=>absurd h0 (by decide))).mono ?_
 rintro e w' ⟨he,ho,_⟩;exact ⟨he,ho⟩
theorem KR.do1 {w0 W1 W:World}{kb bA:Nat}{R:RS}(h:KR w0 W1 kb R)(hf:Fr W1 W (fun _=>False))(c:Cl)(th a:Int)(hca:c.at_=[a])(hcb:c.to=[])(lA:W1.heap.size<=bA){t:TypeId}
 (hA:W.heap[bA]?=some (.cells #[.int .i64 a] t (0,0))) :
 Calls Tryd.prog 12 (ie kb th c (.slice (some ⟨bA,0,none⟩) 1 1) (.slice none 0 0) (.slice none 0 0)) W
  fun e w'=>e=.returned (.tuple #[.int .i64 (ew R th c []).1,.int .i64 (ew R th c []).2.1])/\KR w0 w' kb (aft R th c):=by
 refine (h.doB hf c th (bs:=[]) (by rw [hca];exact zo hA) (by rw [hcb];exact bq2 W) (by rw [hca];exact (by decide:1<=9000000000000000000)) (by rw [hcb];exact (by decide:0<=9000000000000000000)) (fun _ _ _ e=>by cases e;decide) (fun _ _ _ e=>by cases e;decide) (fj.none _ _ _) (fun _ k hk=>.inr (by rw [<- ka hk];exact lA)) (fun _ k hk=>by cases hk) (fun h0=>absurd h0 (by decide))).mono ?_
 rintro e w' ⟨he,ho,_⟩;exact ⟨he,ho⟩
theorem KR.thread {w0 W:World}{kb:Nat}{R:RS}(h:KR w0 W kb R)(b:Int):
 Calls Tryd.prog 14 #[.pointer (some ⟨kb,0,none⟩),.int .i64 b] W fun e w'=>e=mz ((R.R.T.find? (ao b)).map gh.thd)/\Fr W w' (fun _=>False):=by
 obtain ⟨⟨K,D⟩,V,h1,h2,h3,h4,h5⟩:=h;refine (a50 V kb b W h3.kd.ker).mono ?_;rintro e w' ⟨he,hf⟩;refine ⟨?_,hf⟩;rw [he,show V.ker=K from h3.kd.eq,h1.core.rel.thr]
theorem KR.word {w0 W:World}{kb:Nat}{R:RS}(h:KR w0 W kb R)(n:Int)(hn:0<=n/\n<1024):
 Calls Tryd.prog 24 #[.pointer (some ⟨kb,0,none⟩),.int .i64 n] W fun e w'=>e=.returned (.tuple #[.int .i64 (R.ws n.toNat),.int .i64 0])/\w'=W:=by
 obtain ⟨⟨K,D⟩,V,h1,h2,h3,h4,h5⟩:=h;have hv:∀i,i<1024->V.ws i=R.ws i:=fun i hi=>by rw [h1.ws i hi,<- show V.ker=K from h3.kd.eq];rfl
 refine (bm7 V kb n W h3.kd.ker (fun i hi=>by rw [hv i hi];exact h2 i)).mono ?_;rintro e w' ⟨he,hf⟩;refine ⟨?_,hf⟩;rw [he];unfold wa;rw [if_pos hn,hv _ (by omega)]
theorem KR.caps {w0 W:World}{kb:Nat}{R:RS}(h:KR w0 W kb R)(hgl:fm w0):
 Calls Tryd.prog 16 #[.pointer (some ⟨kb,0,none⟩)] W fun e w'=>∃v,e=.returned v/\w'.ownsRow W.heap.size 53 10 v R.R.L.length (ai6 (jm R.R.L R.R.L.length))/\Fr W w' (fun _=>False):=by
 obtain ⟨⟨K,D⟩,V,h1,h2,h3,h4,h5⟩:=h;have hK:V.ker=K:=h3.kd.eq;subst hK;obtain ⟨F,hF⟩:=h1.core.rel.tree;obtain ⟨y,hy,hk⟩:=hF.roots;obtain ⟨x,hx,hp,hkx⟩:=pn (V:=V) (s:=nowhere) (x:=y) hy;have hcaps:=h1.core.rel.caps hF;have hl:F.slots.length=R.R.L.length:=by rw [hF.slots];simp
 refine (aq3 V kb W h3.kd.ker (fm.fr hgl h5) F x hF.stands hx (hkx.trans hk) (fun s hs=>(ld h1.core.rel hF).1 hs) (by have:=h1.core.len;omega)).mono ?_
 rintro e w' ⟨v,he,ho,hf⟩;refine ⟨v,he,?_,hf⟩;rw [hcaps,hl] at ho;exact ho
def dq (c n:Int):Int:=(if c<0 then -(c+1) else c) % n
theorem ng (c n:Int)(hn:0<n):0<=dq c n/\dq c n<n:=by
 unfold dq;exact ⟨Int.emod_nonneg _ (by omega),Int.emod_lt_of_pos _ hn⟩
theorem vh (c n:Int)(w:World)(h0:-9223372036854775808<=c)(h1:c<=9223372036854775807)(hn:0<n)(hn1:n<=4294967296):
 Calls Tryd.prog 13 #[.int .i64 c,.int .i64 n] w fun e w'=>e=.returned (.int .i64 (dq c n))/\w'=w:=by
 by_cases hc:c<0
 ·have HP:Hid (dq c n=-((c+1).tmod n)):=by show _=_;unfold dq;rw [if_pos hc,<- Int.tmod_eq_emod_of_nonneg (by omega),Int.neg_tmod]
  go_enter Tryd.func13,Tryd.ntmps13
  go_wp2;go_ret;exact ⟨by rw [HP.out];rfl,rfl⟩
 ·have HP:Hid (dq c n=c % n):=by show _=_;unfold dq;rw [if_neg hc]
  go_enter Tryd.func13,Tryd.ntmps13
  go_wp2;go_ret;exact ⟨by rw [HP.out];rfl,rfl⟩
theorem bj8 {P:Program}{f:FuncId}{args:Array Value}{w:World}{n:Nat}{v:Value}(h:Calls P f args (w.drewN n) fun e w'=>e=.returned v/\w'=w.drewN n):Calls P f args (w.drewN n) fun e w'=>e=.returned v/\∃m,w'=w.drewN m:=
 h.mono fun _ _ ⟨a,b⟩=>⟨a,n,b⟩
theorem bf8 (W:World)(o o':Obj):((W.alloc o).alloc o').heap[W.heap.size]?=some o/\((W.alloc o).alloc o').heap[W.heap.size+1]?=some o':=by
 have h:=heap_alloc_new (W.alloc o) o';rw [World.size_alloc] at h;exact ⟨((Fr.refl (W.alloc o) (fun _=>False)).alloc o').same (heap_alloc_new W o) id,h⟩
theorem KR.call2 {w0 W:World}{kb:Nat}{R:RS}(h:KR w0 W kb R)(c:Cl)(th a b:Int)(hca:c.at_=[a])(hcb:c.to=[b]):
 Calls Tryd.prog 12 (ie kb th c (.slice (some ⟨W.heap.size,0,none⟩) 1 1) (.slice (some ⟨W.heap.size+1,0,none⟩) 1 1) (.slice none 0 0)) ((W.alloc (.cells #[.int .i64 a] 3)).alloc (.cells #[.int .i64 b] 3))
  fun e w'=>e=.returned (.tuple #[.int .i64 (ew R th c []).1,.int .i64 (ew R th c []).2.1])/\KR w0 w' kb (aft R th c):=
 h.do2 (((Fr.refl _ _).alloc _).alloc _) c th a b hca hcb (Nat.le_refl _) (by omega) (bf8 W _ _).1 (bf8 W _ _).2
theorem KR.call1 {w0 W:World}{kb:Nat}{R:RS}(h:KR w0 W kb R)(c:Cl)(th a:Int)(hca:c.at_=[a])(hcb:c.to=[]):
 Calls Tryd.prog 12 (ie kb th c (.slice (some ⟨W.heap.size,0,none⟩) 1 1) (.slice none 0 0) (.slice none 0 0)) (W.alloc (.cells #[.int .i64 a] 3))
  fun e w'=>e=.returned (.tuple #[.int .i64 (ew R th c []).1,.int .i64 (ew R th c []).2.1])/\KR w0 w' kb (aft R th c):=
 h.do1 ((Fr.refl _ _).alloc _) c th a hca hcb (Nat.le_refl _) (heap_alloc_new _ _)
end Go.Proofs.YtdpjgflemddekaaDoor
namespace Go.Proofs.YtdpjgflemddekaaDoor
open Go.RowKit
structure b52 (w:World)(g o:Nat)(e:ee):Prop where
 c3:w.cell? ⟨g,o+3,none⟩=some (.int .i64 e.base)
 c8:w.cell? ⟨g,o+8,none⟩=some (.int .i64 e.parent)
 c9:w.cell? ⟨g,o+9,none⟩=some (.int .i64 e.place)
theorem br5 {w:World}{g:Nat}{L:List ee}(h:∀i (hi:i<L.length) j x,(L[i].vals)[j]?=some x->w.cell? ⟨g,i*10+j,none⟩=some x)(i:Nat)(hi:i<L.length):b52 w g (i*10) L[i]:=
 ⟨h i hi 3 _ rfl,h i hi 8 _ rfl,h i hi 9 _ rfl⟩
theorem b34:su9.R.L.length=5:=by kernel_rfl
theorem aa8:(jm su9.R.L 5).length=5:=by kernel_rfl
theorem b71:((jm su9.R.L 5)[3]'(by rw [aa8];decide)).base=128:=by kernel_rfl
theorem b60:((jm su9.R.L 5)[4]'(by rw [aa8];decide)).base=128/\((jm su9.R.L 5)[4]'(by rw [aa8];decide)).parent=0/\((jm su9.R.L 5)[4]'(by rw [aa8];decide)).place=5:=⟨by kernel_rfl,by kernel_rfl,by kernel_rfl⟩
structure b73 (w:World)(g:Nat):Prop where
 b3:w.cell? ⟨g,33,none⟩=some (.int .i64 128)
 b4:w.cell? ⟨g,43,none⟩=some (.int .i64 128)
 p4:w.cell? ⟨g,48,none⟩=some (.int .i64 0)
 l4:w.cell? ⟨g,49,none⟩=some (.int .i64 5)
theorem bo1 {w0:World}(hgl:fm w0)(W:World)(kb:Nat)(h:KR w0 W kb su9):
 Calls Tryd.prog 16 #[.pointer (some ⟨kb,0,none⟩)] W fun e w'=>∃g cap,e=.returned (.slice (some ⟨g,0,none⟩) 5 cap)/\b73 w' g/\Fr W w' (fun _=>False):=by
 refine (h.caps hgl).mono ?_;rintro e w' ⟨v,he,ho,hf⟩;rw [b34] at ho;have hcl:=aa8;obtain ⟨A,cap,hv,hA⟩:=el (f:=ee.vals) ee.vals_len (L:=jm su9.R.L 5) (by rw [hcl];exact ho);rw [hcl] at hv;obtain ⟨g,rfl,hc⟩:=hA (by rw [hcl];decide);have e3:=br5 hc 3 (by rw [hcl];decide);have e4:=br5 hc 4 (by rw [hcl];decide);obtain ⟨x1,x2,x3⟩:=b60;refine ⟨g,cap,by rw [he,hv],⟨?_,?_,?_,?_⟩,hf⟩
 ·have:=e3.c3;rw [b71] at this;exact this
 ·have:=e4.c3;rw [x1] at this;exact this
 ·have:=e4.c8;rw [x2] at this;exact this
 ·have:=e4.c9;rw [x3] at this;exact this
theorem a03 (w:World)(hgl:fm w):
 Calls Tryd.prog 10 #[] w fun e w'=>e=.returned (.bool true)/\Fr w w' (fun _=>False):=by
 go_enter Tryd.func10,Tryd.ntmps10
 go_upto_region 4 with (go_at_call 11;refine (aw4 _ hgl).mono ?_;rintro e W1 ⟨kb,rfl,h1⟩)
 go_upto_region 5 with (go_at_call 12;refine (h1.call2 sc1 64 0 5 rfl rfl).mono ?_;rintro e W2 ⟨he,h2⟩;rw [b65] at he;subst he)
 clear h1;go_upto_region 6 with (go_at_call 12;refine (KR.call2 (R:=su1) h2 sc2 64 5 6 rfl rfl).mono ?_;rintro e W3 ⟨he,h3⟩;rw [b63] at he;subst he)
 clear h2;go_upto_region 7 with (go_at_call 12;refine (KR.call1 (R:=su2) h3 sc3 64 6 rfl rfl).mono ?_;rintro e W4 ⟨he,h4⟩;rw [b56] at he;subst he)
 clear h3;go_upto_region 8 with (go_at_call 24;refine (KR.word (R:=su3) h4 128 (by decide)).mono ?_;rintro e W4' ⟨he,rfl⟩;rw [show su3.ws (Int.toNat 128)=9 from b69] at he;subst he)
 go_upto_region 9 with (go_at_call 12;refine (KR.call2 (R:=su3) h4 sc4 64 6 7 rfl rfl).mono ?_;rintro e W5 ⟨he,h5⟩;rw [b54] at he;subst he)
 clear h4;go_upto_region 10 with (go_at_call 12;refine (KR.call1 (R:=su4) h5 sc5 64 7 rfl rfl).mono ?_;rintro e W6 ⟨he,h6⟩;rw [b58] at he;subst he)
 clear h5;go_upto_region 11 with (go_at_call 12;refine (KR.call1 (R:=su5) h6 sc6 64 6 rfl rfl).mono ?_;rintro e W7 ⟨he,h7⟩;rw [b19.1,b19.2] at he;subst he)
 clear h6;go_upto_region 12 with (go_at_call 12;refine (KR.call1 (R:=su6) h7 sc7 64 5 rfl rfl).mono ?_;rintro e W8 ⟨he,h8⟩;rw [b62] at he;subst he)
 clear h7;go_upto_region 13 with (go_at_call 12;refine (KR.call2 (R:=su7) h8 sc2 64 5 6 rfl rfl).mono ?_;rintro e W9 ⟨he,h9⟩;rw [b64] at he;subst he)
 clear h8;go_upto_region 14 with (go_at_call 12;refine (KR.call1 (R:=su8) h9 sc6 64 6 rfl rfl).mono ?_;rintro e W10 ⟨he,h10⟩;rw [b21.1,b21.2] at he;subst he)
 clear h9;go_upto_region 15 with (go_at_call 16;refine (bo1 hgl _ kb h10).mono ?_;rintro e W11 ⟨g,cap,rfl,h11,hf11⟩)
 have hF:=h10.base.step hf11 (fun _=>False.elim);clear h10;obtain ⟨m1,m2,m3,m4⟩:=h11;go_wp2;go_ret;exact ⟨rfl,hF⟩
end Go.Proofs.YtdpjgflemddekaaDoor
