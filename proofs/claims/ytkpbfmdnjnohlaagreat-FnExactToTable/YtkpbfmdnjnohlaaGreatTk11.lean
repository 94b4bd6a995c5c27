/-
  Texts of the proof, put together.
-/
import Derived.Test.YtkpbfmdnjnohlaaGreatTk02
namespace Go.Proofs.YtkpbfmdnjnohlaaGreat
open Go.RowKit Go.Joins OutMath HeadMath
def TabPost (F:Nat→Rgb3) (n:Nat) (w:World) (e:Ending) (w':World):Prop:=((TableR F n∧e=.returned (.tuple #[.string (tableT F n),.bool true]))∨(¬ TableR F n∧e=.returned (.tuple #[.string ⟨#[]⟩,.bool false])))∧Below w.heap.size w w'
theorem rgb_info8:(Tryz.prog.info? 5).map (fun i=>(i.zero,i.size,i.bytes))=some (some (.int .u8 0),1,1):=by kernel_rfl
def t8 (xs:List Int):List Value:=xs.map (Value.int .u8)
theorem t8_app (xs ys:List Int):t8 (xs ++ ys)=t8 xs ++ t8 ys:=by simp [t8]
theorem t8_one (xs:List Int):∀ u∈t8 xs,u.oneCell'=true:=by
 intro u hu
 obtain⟨x,_,rfl⟩:=List.mem_map.mp hu
 rfl
def TbB (w w':World) (v:Value) (F:Nat→Rgb3) (j:Nat):Prop:=w'.ownsRow w.heap.size 5 1 v (3 * j) (t8 (colN F j))∧(∀ i,i < j→RgbR (F i))∧Below w.heap.size w w'
theorem TbB.called {w w' w2:World} {v:Value} {F:Nat→Rgb3} {j:Nat} (h:TbB w w' v F j) (hb:Below w'.heap.size w' w2):TbB w w2 v F j:=by
 obtain⟨⟨h1,h2⟩,h3,h4⟩:=h
 refine⟨⟨h1,?_⟩,h3,bnext h4 hb⟩
 rcases h2 with q | ⟨g,cap,cur,q,h5,hg,h6⟩
 ·exact .inl q
 ·exact .inr ⟨g,cap,cur,q,h5,(hb.block g (block_lt hg)).trans hg,h6⟩
theorem TbB.start0 (w:World) (F:Nat→Rgb3):TbB w w (.slice none 0 0) F 0:=
 ⟨⟨rfl,.inl ⟨rfl,rfl⟩⟩,fun i hi=>absurd hi (Nat.not_lt_zero i),Below.refl _ _⟩
theorem TbB.empty (w:World) (F:Nat→Rgb3):TbB w (w.alloc (.cells #[] 5)) (.slice (some ⟨w.heap.size,0,none⟩) 0 0) F 0:=
 ⟨⟨rfl,.inr ⟨w.heap.size,0,#[],rfl,Nat.le_refl _,heap_alloc_new w _,Nat.le_refl _,Nat.zero_le _,rfl,rfl⟩⟩,fun i hi=>absurd hi (Nat.not_lt_zero i),bstart _ _⟩
theorem TbB.next {w w1 w2:World} {v v':Value} {F:Nat→Rgb3} {j:Nat} (h:TbB w w1 v F j) (hc:RgbR (F j)) (hown:w2.ownsRow w.heap.size 5 1 v' (3 * j+3) (t8 (colN F j) ++ t8 [(F j).1,(F j).2.1,(F j).2.2])) (hg:w1.grownBy w2 v.ownBlock):TbB w w2 v' F (j+1):=by
 refine⟨?_,fun i hi=>?_,?_⟩
 ·rw[colN_next,t8_app,show 3 * (j+1)=3 * j+3 by omega]
  exact hown
 ·by_cases e:i=j
  ·rw[e]; exact hc
  ·exact h.2.1 i (by omega)
 ·refine h.2.2.grown hg h.2.2.size fun q hq=>?_
  rcases h.1.2 with ⟨rfl,_⟩ | ⟨g,cap,cur,rfl,h5,_⟩
  ·cases hq
  ·cases hq
   exact h5
theorem TbB.text {w w':World} {v:Value} {F:Nat→Rgb3} {n:Nat} (h:TbB w w' v F n) (hn:1≤n):(convert 120 9 v).run Tryz.prog w'=.ok (.string (tableT F n)) w':=by
 have hl:=colN_length F n
 rcases h.1.2 with ⟨_,q⟩ | ⟨g,cap,cur,rfl,h5,hg,h6⟩
 ·omega
 ·refine run_convert_bytes_arg w' 120 5 Tryz.underlying120 Tryz.underlying5 g 0 _ cap (colN F n) hl (fun i hi=>?_) 9 Tryz.underlying9
  have hlt:i < (colN F n).length:=by omega
  rw[Nat.zero_add,h.1.cellAt i (by rw [Nat.mul_one]; exact hi)]
  simp[t8,hlt]
theorem bytes_three {w:World} {S:Nat} {v:Value} {k:Nat} {xs:List Int} {ops:Array Oper} {rest:List Oper} {o:Oper} {a:Act} {Q:Exit→Act→World→Prop} (hgd:o.guard=none) (s x:Operand)
  (ho:o.op=.call { callee:=.builtin .append,args:=#[s,x],argTypes:=#[120,120] }) (hs:a.eval s=v) (h:w.ownsRow S 5 1 v k (t8 xs)) (b c:Nat) (y0 y1 y2:Int) (hx:a.eval x=.slice (some ⟨b,0,none⟩) 3 c) (hb:w.heap[b]?=some (.cells #[.int .u8 y0,.int .u8 y1,.int .u8 y2] 5 (0,0)))
  (h63:k≤100000) (hS:S≤w.heap.size)
  (hK:∀ v' w',w'.ownsRow S 5 1 v' (k+3) (t8 xs ++ t8 [y0,y1,y2])→w.grownBy w' v.ownBlock→wpList Tryz.prog ops Q rest (a.put o.dst v') w'):wpList Tryz.prog ops Q (o :: rest) a w:=by
 obtain⟨i0,hi0,hz0,hz1,hz2⟩:=info_parts rgb_info8
 refine wpList_append_own_at w hgd s x _ ho S 5 i0 _ 1 1 Tryz.underlying120 hi0 hz0 hz1 hz2 rfl (by omega) v k (t8 xs) hs h ⟨b,0,none⟩ 3 c (t8 [y0,y1,y2]) hx rfl (fun j u hu=>?_) (t8_one _) (by unfold maxLen; omega) (by omega) hS ?_
 ·rw[Addr.add_lit,Nat.zero_add,cell_of_block hb]
  match j,hu with
  | 0,hu=>exact hu
  | 1,hu=>exact hu
  | 2,hu=>exact hu
  | q+3,hu=>simp [t8] at hu
 ·intro v' w' hown hg _ _
  exact hK v' w' hown hg
def col3 (c:Rgb3) (i:Nat):Int:=if i=0 then c.1 else if i=1 then c.2.1 else c.2.2
theorem col3_fit (c:Rgb3):Fit12 (col3 c) 3 8↔RgbR c:=by
 have p8:p2 8=256:=by decide +kernel
 unfold Fit12
 rw[p8]
 constructor
 ·intro h
  have h0:0≤c.1∧c.1 < 256:=h 0 (by omega)
  have h1:0≤c.2.1∧c.2.1 < 256:=h 1 (by omega)
  have h2:0≤c.2.2∧c.2.2 < 256:=h 2 (by omega)
  show (0≤c.1∧c.1≤255)∧(0≤c.2.1∧c.2.1≤255)∧(0≤c.2.2∧c.2.2≤255)
  omega
 ·rintro⟨h0,h1,h2⟩ i hi
  match i,hi with
  | 0,_=>show 0≤c.1∧c.1 < 256; omega
  | 1,_=>show 0≤c.2.1∧c.2.1 < 256; omega
  | 2,_=>show 0≤c.2.2∧c.2.2 < 256; omega
  | q+3,hq=>omega
end Go.Proofs.YtkpbfmdnjnohlaaGreat
