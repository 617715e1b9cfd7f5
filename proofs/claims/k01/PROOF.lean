import PyProof.Rows.All
import Wide.All
import OpenK.AllK
import Wide.FinOn
import HandS.ForMost
import HandS.IsInst
import HandS.Wide
import HandS.Walk
import HandS.Flow
import HandS.AnyAll
import HandS.EndTab
import HandS.Deep
import HandS.Style
import HandS.Conv
import HandS.DictTup
import HandS.SortInts
import KE.DataCmp
import KE.SortData
import KE.BitLaws
import KE.DataFind
import PyProof.ReprRoads
import PyProof.Rows.ReprOcc
import HandS.FStr
import HandS.StrMore
import HandS.Exc
import HandS.ExcInit
import HandS.ExcIs
import HandS.ExcField
import HandS.WordsExc
import HandS.ExcValue
import HandS.SetFor
import HandS.RevRange
import HandS.GenList
import HandS.DictComp
import PyProof.SumAny
import HandS.Star
import HandS.WideBits
import KE.KeyNested
import KE.KDictKeyed
import HandS.Strs
import HandS.CallLocal
import HandS.More
import HandS.RaiseFrom
import HandS.SuiteRaise
import HandS.TryOnly
import HandS.Small
import HandS.ExcInitHot
import KE.GoesRaise
import KE.KExcIs
import PySem.Challenge.RW_packwants_k01_covers_and_rests
set_option Elab.async false
set_option linter.all false
set_option maxRecDepth 100000
set_option maxHeartbeats 4000000
namespace Pk
open PySem PySem.Spec PyProof.Rows L2
def topS (i : Nat) : Stmt := PySem.Challenge.pw_packwants_k01_covers_and_rests.main.body.getD i (.Pass ⟨0, 0, 0, 0⟩)
/-! ### heaps and plain data -/
theorem same_upd {H : Hp} {p : Addr} {o : HO} (h : H p = none) : Same H (upd H p o) := fun b x e => by
  rw [upd_ne (ne_of_none e h)]
  exact e
/-- all but a is as it was -/
def SameBut (a : Addr) (H H' : Hp) : Prop := ∀ b o, b ≠ a → H b = some o → H' b = some o
theorem SameBut.of {a : Addr} {H H' : Hp} (h : Same H H') : SameBut a H H' := fun b o _ e => h b o e
theorem SameBut.refl (a : Addr) (H : Hp) : SameBut a H H := fun _ _ _ e => e
theorem SameBut.trans {a : Addr} {H H1 H2 : Hp} (h : SameBut a H H1) (k : SameBut a H1 H2) : SameBut a H H2 := fun b o n e => k b o n (h b o n e)
theorem SameBut.upd {a : Addr} {H : Hp} {o : HO} : SameBut a H (upd H a o) := fun b x n e => by
  rw [upd_ne n]
  exact e
theorem SameBut.new {a p : Addr} {H H' : Hp} {o : HO} (h : SameBut a H H') (hp : H p = none) : SameBut a H (L2.upd H' p o) := fun b x n e => by
  rw [upd_ne (ne_of_none e hp)]
  exact h b x n e
/-- what was not there at the start may change -/
theorem sm_new {p : Addr} {H H' : Hp} {o : HO} (h : Same H H') (hp : H p = none) : Same H (L2.upd H' p o) := fun b x e => by
  rw [upd_ne (ne_of_none e hp)]
  exact h b x e
theorem SameBut.free {a p : Addr} {H H' : Hp} (h : SameBut a H H') (n : H' p = none) (ha : H' a ≠ none) : H p = none := by
  cases q : H p with
  | none => rfl
  | some o =>
    by_cases e : p = a
    · subst e
      exact absurd n ha
    · rw [h p o e q] at n
      cases n
/-- a list of ints -/
abbrev LI (ns : List Int) : HO := .lst (ns.map V.int)
theorem dpAll_ints {K : PySem.W.Frag} {H : Hp} : ∀ ns : List Int, DpAll K H (ns.map V.int) (ns.map PyData.int)
  | [] => .nil
  | n :: r => .cons (.int n) (dpAll_ints r)
theorem dp_ints {K : PySem.W.Frag} {H : Hp} {a : Addr} {ns : List Int} (h : SqL K H a (ns.map V.int)) : Dp K H (.ref a) (.list (ns.map PyData.int)) := .lst h (dpAll_ints ns)
theorem lay_ints : ∀ ns : List Int, PyData.canLayAll0 (ns.map PyData.int) = true
  | [] => by simp [PyData.canLayAll0]
  | n :: r => by
    have ih := lay_ints r
    simp [PyData.canLayAll0, PyData.canLay0, ih]
theorem depth_ints : ∀ ns : List Int, PyData.depthAll (ns.map PyData.int) = 0
  | [] => by simp [PyData.depthAll]
  | n :: r => by
    have ih := depth_ints r
    simp [PyData.depthAll, PyData.depth, ih]
theorem shaped_ints (ns : List Int) : SeqAt.shaped (.list (ns.map PyData.int)) = true := by
  unfold SeqAt.shaped
  have h1 : PyData.canLay0 (.list (ns.map PyData.int)) = true := by
    simp only [PyData.canLay0]
    exact lay_ints ns
  have h2 : PyData.depth (.list (ns.map PyData.int)) ≤ 64 := by
    simp only [PyData.depth]
    rw [depth_ints]
    omega
  rw [h1, decide_eq_true h2]
  rfl
theorem eqvAll_ints : ∀ ns ms : List Int, PyData.eqvAll (ns.map PyData.int) (ms.map PyData.int) = decide (ns = ms)
  | [], [] => by simp [PyData.eqvAll]
  | [], _ :: _ => by simp [PyData.eqvAll]
  | _ :: _, [] => by simp [PyData.eqvAll]
  | n :: r, m :: q => by
    have ih := eqvAll_ints r q
    simp only [List.map_cons, PyData.eqvAll, PyData.eqv, ih]
    by_cases h1 : n = m <;> by_cases h2 : r = q <;> simp [h1, h2]
theorem eqv_ints (ns ms : List Int) : PyData.eqv (.list (ns.map PyData.int)) (.list (ms.map PyData.int)) = decide (ns = ms) := by
  simp only [PyData.eqv]
  exact eqvAll_ints ns ms
theorem li_app (ls : List Int) (n : Int) : HO.lst (ls.map V.int ++ [.int n]) = LI (ls ++ [n]) := by
  show _ = HO.lst ((ls ++ [n]).map V.int)
  rw [List.map_append]
  rfl
theorem li_set (ls : List Int) (j : Nat) (n : Int) : HO.lst ((ls.map V.int).set j (.int n)) = LI (ls.set j n) := by
  show _ = HO.lst ((ls.set j n).map V.int)
  rw [List.map_set]
theorem at_app {H : Hp} {a : Addr} {ls : List Int} {n : Int} : upd H a (.lst (ls.map V.int ++ [.int n])) a = some (LI (ls ++ [n])) := by rw [upd_same, li_app]
theorem at_set {H : Hp} {a : Addr} {ls : List Int} {j : Nat} {n : Int} : upd H a (.lst ((ls.map V.int).set j (.int n))) a = some (LI (ls.set j n)) := by rw [upd_same, li_set]
theorem szL {n : Nat} (h : n ≤ 100000) : n ≤ sizeLine := Nat.le_trans h (by decide)
theorem szL' {n : Nat} (h : n ≤ 100000) : n < sizeLine := Nat.lt_of_le_of_lt h (by decide)
theorem get_ints {ns : List Int} {i : Nat} {n : Int} (h : ns[i]? = some n) : (ns.map V.int)[i]? = some (.int n) := by
  rw [List.getElem?_map, h]
  rfl
theorem getD_ints {ns : List Int} {i : Nat} (h : i < ns.length) : (ns.map V.int)[i]? = some (.int ns[i]) := get_ints (List.getElem?_eq_getElem h)
theorem of_get_ints {ns : List Int} {i : Nat} {v : V} (h : (ns.map V.int)[i]? = some v) : ∃ n, ns[i]? = some n ∧ v = .int n := by
  rw [List.getElem?_map] at h
  cases e : ns[i]? with
  | none => rw [e] at h; cases h
  | some n => rw [e] at h; exact ⟨n, rfl, (Option.some.inj h).symm⟩
/-- i % n as a place -/
theorem mod_at {i : Int} {n : Nat} (h : 0 < n) : ∃ j : Nat, j < n ∧ i % (n : Int) = (j : Int) := by
  have h1 : 0 ≤ i % (n : Int) := Int.emod_nonneg i (by omega)
  have h2 : i % (n : Int) < (n : Int) := Int.emod_lt_of_pos i (by omega)
  exact ⟨(i % (n : Int)).toNat, by omega, by omega⟩
theorem ixN_nat {n j : Nat} (h : j < n) : ixN n (j : Int) = some j := by
  unfold ixN
  rw [if_pos (by omega), if_pos (by omega), Int.toNat_natCast]
theorem take_succ_at {α : Type} {l : List α} {i : Nat} {x : α} (h : l[i]? = some x) : l.take (i + 1) = l.take i ++ [x] := by
  rw [List.take_add_one, h]
  rfl
/-- a def of the top: where it stands -/
structure Def (K : PySem.W.Frag) (mg : Str → Option Value) (x : Str) (st : Stmt) (ps : List Str) (f : Addr) (fd : FuncData) : Prop where
  F : Fun K x x st f fd
  g : mg x = some (.ref f)
  b : Binds K fd ps []
/-! ### rules at a written K (for a comprehension's block) -/
section
variable {X : Cx} {K : PySem.W.Frag}
theorem ix_listK (h : X.K = K) : IxR X (rIxL K) := by subst h; exact ix_list
theorem ix_tupK (h : X.K = K) : IxR X (rIxT K) := by subst h; exact ix_tup
theorem call_len_seqK (h : X.K = K) : CallR X (.builtin "len") (fun xs H Q => ∃ p ys, xs = [.ref p] ∧ (SqL K H p ys ∨ SqT K H p ys) ∧ Q (.int ys.length) H) := by subst h; exact call_len_seq
theorem op_eqDK (h : X.K = K) (hu : X.A.units + 64 < cLine) : OpR X (compareOp .Eq) (rEqD K) := by subst h; exact op_eqD hu
theorem op_neDK (h : X.K = K) (hu : X.A.units + 64 < cLine) : OpR X (compareOp .NotEq) (rNeD K) := by subst h; exact op_neD hu
theorem cr_maxK (h : X.K = K) (hc : X.calm = true) : CallR X (.builtin "max") (rMax K) := by subst h; exact cr_max hc
theorem cr_sumK (h : X.K = K) (hc : X.calm = true) : CallR X (.builtin "sum") (rSum K) := by subst h; exact cr_sum hc
theorem call_list_ofK (h : X.K = K) : CallR X (.type "list") (fun xs H Q => ∃ p ys, xs = [.ref p] ∧ (SqL K H p ys ∨ SqT K H p ys) ∧ ∀ l, H l = none → Q (.ref l) (upd H l (.lst ys))) := by subst h; exact call_list_of
theorem pi_listK {tg l : Expr} {tl : TE} (h : X.K = K) (hl : PE X l tl) : PI X tg l (iList K tl) := by subst h; exact pi_list hl
theorem pi_tupK {tg l : Expr} {tl : TE} (h : X.K = K) (hl : PE X l tl) : PI X tg l (iTup K tl) := by subst h; exact pi_tup hl
theorem pg_tupK {es : List Expr} {k : Nat} {t : TGs} {n : Nat} {pos : Pos} (hK : X.K = K) (hc : X.calm = true) (h : PGs X es t)
    (hn : (assignEach es X.env).length = n := by rfl) (hst : (assignEach es X.env).findIdx? (·.1) = none := by rfl) : PG X (.Tuple es k pos) (gTup K n t) := by subst hK; exact pg_tup hc h hn hst
end
/-! ### a statement whose ends are joined by what holds behind it -/
def tCutI (t u : TS) : TS := fun D σ H => ∃ I : L2.St → Hp → Prop, t { D with nx := I } σ H ∧ ∀ σ' H', I σ' H' → u D σ' H'
theorem pss_cutI {X : Cx} {st : Stmt} {rest : List Stmt} {t u : TS} (h1 : PS X st t) (h2 : PSs X rest u) : PSs X (st :: rest) (tCutI t u) := by
  refine ⟨fun pins s σ H D I h => ?_⟩
  obtain ⟨J, h, hJ⟩ := h
  refine wpAny_execs_cons (thn (h1.run pins s σ H { D with nx := J } I h) fun f s1 q => ?_)
  cases f with
  | next =>
    obtain ⟨σ', H', I', q⟩ := q
    exact h2.run pins s1 σ' H' D I' (hJ σ' H' q)
  | ret v => exact q
  | brk => exact q
  | cont => exact q
/-- data: lists of lists of ints -/
abbrev dRows (rs : List (List Int)) : PyData := .list (rs.map fun r => .list (r.map PyData.int))
theorem lay_rows : ∀ rs : List (List Int), PyData.canLayAll0 (rs.map fun r => .list (r.map PyData.int)) = true
  | [] => by simp [PyData.canLayAll0]
  | r :: q => by
    have ih := lay_rows q
    have h1 := lay_ints r
    simp [PyData.canLayAll0, PyData.canLay0, ih, h1]
theorem depth_rows : ∀ rs : List (List Int), PyData.depthAll (rs.map fun r => .list (r.map PyData.int)) ≤ 1
  | [] => by simp [PyData.depthAll]
  | r :: q => by
    have ih := depth_rows q
    have h1 := depth_ints r
    simp only [List.map_cons, PyData.depthAll, PyData.depth]
    omega
theorem shaped_rows (rs : List (List Int)) : SeqAt.shaped (dRows rs) = true := by
  unfold SeqAt.shaped
  have h1 : PyData.canLay0 (dRows rs) = true := by
    simp only [PyData.canLay0]
    exact lay_rows rs
  have h2 : PyData.depth (dRows rs) ≤ 64 := by
    have := depth_rows rs
    simp only [PyData.depth]
    omega
  rw [h1, decide_eq_true h2]
  rfl
theorem eqv_self {d : PyData} (h : SeqAt.shaped d = true) : PyData.eqv d d = true := SeqAt.eqv_refl d (SeqAt.canLay_of_shaped h)
/-! ### generator expressions whose element is quiet: the def's code table may grow, all else stands -/
/-- what is no bare record is not the table -/
theorem tab_ne {X : Cx} {pins : List (Addr × Obj)} {σ : L2.St} {H1 : Hp} {s1 : Shared} {P : Addr} (I : Inv X pins σ H1 s1) (h : GxR.TabG H1 P) {b : Addr} {o : Obj} (e : s1.heap.get? b = some o) (c : o.cls ≠ .none ∨ ∀ vs, o.data ≠ .fields vs) : b ≠ P := by
  rintro rfl
  obtain ⟨ps, isTab, _⟩ := h
  have q : s1.heap.get? b = some { cls := .none, data := .fields ps } := I.hok b _ isTab
  cases q.symm.trans e
  exact c.elim (fun z => z rfl) (fun z => z _ rfl)
/-- from h2 to h3 the table at P has grown by some entries, and all else stands -/
structure Longer (P : Addr) (h2 h3 : Heap) (ps more : Array Value) : Prop where
  rest : Heap.ExtBut P h2 h3
  size : h2.objs.size ≤ h3.objs.size
  table : h3.get? P = some { cls := .none, data := .fields (ps ++ more) }
  good : TriplesOk (ps ++ more).toList
/-- the expression's own scope: the walked thing at «.0», its names, and captured ones that are cells of the def; for two names -/
structure GenS2 (sc scope : Scope) (xa xb : Str) : Prop where
  kind : scope.kind = .function
  co : scope.isCoroutine = false
  cell : ∀ y ∈ scope.names, y.2 ≠ .cell
  dot : scope.names.lookup (".0" : Str) = some NameKind.local
  la : scope.names.lookup xa = some .local
  lb : scope.names.lookup xb = some .local
  ne : xa ≠ xb
  free : ∀ y ∈ scope.names, y.2 = .free → sc.names.lookup y.1 = some .cell
/-- for one -/
structure GenS1 (sc scope : Scope) (x : Str) : Prop where
  kind : scope.kind = .function
  co : scope.isCoroutine = false
  cell : ∀ y ∈ scope.names, y.2 ≠ .cell
  dot : scope.names.lookup (".0" : Str) = some NameKind.local
  la : scope.names.lookup x = some .local
  free : ∀ y ∈ scope.names, y.2 = .free → sc.names.lookup y.1 = some .cell
/-- what is said of the thing that is walked: it was made in s1, and stands in t -/
structure Walkee (X : Cx) (pins : List (Addr × Obj)) (σ : L2.St) (H1 : Hp) (P : Addr) (fp wr : List Addr) (s1 t : Shared) : Prop where
  inv : Inv X pins σ H1 s1
  tab : GxR.TabG H1 P
  same : ∃ h n, t = { s1 with heap := h, toks := n }
  keep : ∀ b o, s1.heap.get? b = some o → t.heap.get? b = some o
  size : s1.heap.objs.size ≤ t.heap.objs.size
  low : ∀ b ∈ fp, b < t.heap.objs.size ∧ b ≠ P
  new : ∀ b ∈ wr, s1.heap.objs.size ≤ b
/-- the generator g, ready to be walked, in the state s5; F: what each turn hands out -/
def Walked (X : Cx) (pins : List (Addr × Obj)) (σ : L2.St) (H1 : Hp) (P : Addr) (n : Nat) (F : Nat → Value → Prop) (g : Addr) (s5 : Shared) : Prop :=
  ∃ (fp wr : List Addr) (G : Array GenState → Array GenState → Prop) (F' : Nat → Value → Prop) (St : Nat → Shared → Prop),
    WalksS X.prog X.w X.A.in1 g fp wr G n F' St ∧ St 0 s5 ∧ (∀ b ∈ fp, b < s5.heap.objs.size) ∧ (∀ i v, F' i v → F i v) ∧ ∀ s', Moved wr G s5 s' → ∃ H2, GxR.Tabbed P H1 H2 ∧ Inv X pins σ H2 s'
/-- what the element may lean on: the frame cenv, the depth, and a heap in which all that stood in s1 stands but for the table -/
structure Turned (X : Cx) (P : Addr) (sc : Scope) (s1 : Shared) (cenv : Env) (A' : Around) (u : Shared) : Prop where
  own : cenv.scope = sc
  cells : cenv.cells = cloFrom X.env.cells sc.names []
  glob : cenv.globals = mainGlobals
  blt : cenv.builtins = builtinsNs
  calm : A'.handled = none
  deep : A'.depth ≤ X.A.depth + 1
  units : A'.units ≤ X.A.units + 8
  still : ∀ b o, b ≠ P → s1.heap.get? b = some o → u.heap.get? b = some o
section
variable {X : Cx} {pins : List (Addr × Obj)} {σ : L2.St} {H1 : Hp} {s1 t : Shared} {c P : Addr} {fp wr : List Addr} {h2 h3 : Heap} {ps more : Array Value}
/-- the code of the expression is looked up, or laid: then the table is longer -/
theorem tab_opens {gpos : Pos} {q : Str} {scope : Scope} {t2 : Nat} {R : Value → Addr → Shared → Prop} (TB : GxR.TabB X.base X.mg c P) (code : X.env.code = .ref c) (I : Inv X pins σ H1 s1) (isTab : H1 P = some (.tbl ps)) (good : TriplesOk ps.toList)
    (keep : ∀ b o, s1.heap.get? b = some o → h2.get? b = some o) (h : ∀ cv h3 n more, Longer P h2 h3 ps more → R cv builtinsNs { s1 with heap := h3, toks := n }) :
    wpAny (model X.prog X.w) X.A (genexprCode X.env gpos q scope) (fun cv t => wpAny (model X.prog X.w) X.A (builtinsFor X.env.globals X.env.builtins) (fun bi u => R cv bi u) X.xe t) X.xe { s1 with heap := h2, toks := t2 } := by
  have table : h2.get? P = some { cls := .none, data := .fields ps } := keep P _ (I.hok P _ isTab)
  have head : PySem.W.CodeHd h2 c P := TB.code.keeps fun b o e => keep b o (I.bk b o e)
  have go : ∀ cv h3 n more, Longer P h2 h3 ps more → wpAny (model X.prog X.w) X.A (builtinsFor X.env.globals X.env.builtins) (fun bi u => R cv bi u) X.xe { s1 with heap := h3, toks := n } := by
    intro cv h3 n more L
    obtain ⟨at_, ob, given, away, _, notTab, inBase, cls, dict, plain⟩ := TB.bm
    have globals : h3.Ns X.env.globals X.mg := I.ok.glob ▸ ((I.mod.glob.keeps I.bk).keeps keep).extBut L.rest TB.gP
    exact wpAny_builtinsFor globals given away (L.rest _ _ notTab (keep _ _ (I.bk _ _ inBase))) cls dict plain (h cv h3 n more L)
  cases found : codeAmong gpos ps.toList
  · refine wpAny_genexprCodeX code (head.code table good) (head.tab table) found fun c' h' n rest below above isCode _ isTable _ => go _ h' n _ ⟨rest, Nat.le_trans below (Nat.le_of_lt above), isTable.2, ?_⟩
    obtain ⟨_, _, _, _, _, _, _, _, _, _, _, _, _, _, _, _, _, _, _, triples, _⟩ := isCode
    exact triples
  · refine wpAny_genexprCode_hit code (head.code table good) found (go _ h2 t2 #[] ⟨Heap.ExtBut.refl _ _, Nat.le_refl _, ?_, ?_⟩)
    · rw [Array.append_empty]
      exact table
    · rw [Array.append_empty]
      exact good
/-- when it has been walked: what was held is held, but for the longer table -/
theorem tab_closes {h5 : Heap} {n : Nat} {gs : GenState} {j : Nat} {wr' : List Addr} {s' : Shared} (I : Inv X pins σ H1 s1) (isTab : H1 P = some (.tbl ps)) (keep : ∀ b o, s1.heap.get? b = some o → h2.get? b = some o) (L : Longer P h2 h3 ps more)
    (bare : gs.bare = true) (on : ∀ b o, h3.get? b = some o → h5.get? b = some o) (new : ∀ b ∈ wr', s1.heap.objs.size ≤ b) (mv : Moved wr' (GenOnlyQ j) { s1 with heap := h5, gens := s1.gens.push gs, toks := n } s') : ∃ H2, GxR.Tabbed P H1 H2 ∧ Inv X pins σ H2 s' := by
  have old : ∀ {b o}, s1.heap.get? b = some o → b ∉ wr' := fun e z => Nat.lt_irrefl _ (Nat.lt_of_lt_of_le (Heap.lt_size e) (new _ z))
  have J := GxR.inv_tab (h' := s'.heap) (g' := s'.gens) (d' := s'.drawn) (t' := s'.toks) I isTab (fun b o far e => mv.heap b o (old e) (on b o (L.rest b o far (keep b o e)))) (mv.heap P _ (old (I.hok P _ isTab)) (on P _ L.table)) (AllBare.movedS (I.bare.push bare) mv)
  exact ⟨upd H1 P (.tbl (ps ++ more)), ⟨⟨_, upd_same, L.good⟩, fun _ far => upd_ne far⟩, (GxR.sh_eta s1 s' mv.os) ▸ J⟩
theorem Walkee.statics (K : Walkee X pins σ H1 P fp wr s1 t) : cStatics ≠ P ∧ cStatics ∉ wr := by
  obtain ⟨_, names, _⟩ := K.inv.nolimit
  constructor
  · rintro rfl
    obtain ⟨ps, isTab, _⟩ := K.tab
    obtain ⟨ob, _, _, there, isNs, _⟩ := names
    have q : s1.heap.get? cStatics = some { cls := .none, data := .fields ps } := K.inv.hok _ _ isTab
    cases q.symm.trans there
    cases isNs
  · exact fun z => Nat.lt_irrefl _ (Nat.lt_of_lt_of_le names.lt (K.new _ z))
/-- all that stood in s1 stands where an element is reckoned -/
theorem Walkee.turned {scope : Scope} {code : Value} {href : Heap} {A' : Around} {u : Shared} (K : Walkee X pins σ H1 P fp wr s1 t) (L : Longer P t.heap h3 ps more) (on : ∀ b o, h3.get? b = some o → href.get? b = some o) (calm : A'.handled = none) (deep : A'.depth ≤ X.A.depth + 1) (units : A'.units ≤ X.A.units + 8)
    (still : ∀ b ∈ List.range h3.objs.size, b ∉ wr → ∀ o, href.get? b = some o → u.heap.get? b = some o) : Turned X P scope s1 (genEnv scope (cloFrom X.env.cells scope.names []) h3.objs.size code builtinsNs X.env) A' u where
  own := rfl
  cells := rfl
  glob := K.inv.ok.glob
  blt := rfl
  calm := calm
  deep := deep
  units := units
  still := fun b o far e =>
    have e3 := L.rest b o far (K.keep b o e)
    still b (List.mem_range.mpr (Heap.lt_size e3)) (fun z => Nat.lt_irrefl _ (Nat.lt_of_lt_of_le (Heap.lt_size e) (K.new b z))) o (on b o e3)
/-- the made generator is ready -/
theorem Walkee.ready {n : Nat} {F : Nat → Value → Prop} {g : Addr} {h5 : Heap} {n3 n5 : Nat} {gs : GenState} {j : Nat} {wr' fp' : List Addr} {St : Nat → Shared → Prop} (K : Walkee X pins σ H1 P fp wr s1 t) (isTab : H1 P = some (.tbl ps)) (L : Longer P t.heap h3 ps more)
    (bare : gs.bare = true) (above : h3.objs.size < g) (size : h5.objs.size = g + 1) (on : ∀ b o, h3.get? b = some o → h5.get? b = some o) (hf : ∀ b ∈ fp', b = g ∨ b = h3.objs.size ∨ b < h3.objs.size) (hw : ∀ b ∈ wr', b = h3.objs.size ∨ b ∈ wr)
    (W : WalksS X.prog X.w X.A.in4 g fp' wr' (GenOnlyQ j) (passing (fun _ => true) n 0).length (fun j y => ∃ i, (passing (fun _ => true) n 0)[j]? = some i ∧ F i y) St) (st : St 0 { ({ s1 with heap := h3, toks := n3 } : Shared) with gens := s1.gens.push gs, toks := n5, heap := h5 }) :
    Walked X pins σ H1 P n F g { ({ s1 with heap := h3, toks := n3 } : Shared) with gens := s1.gens.push gs, toks := n5, heap := h5 } := by
  rw [GxR.passing_true, List.length_range] at W
  refine ⟨_, _, _, _, _, W.in4_1, st, fun b hb => ?_, fun j y hy => ?_, fun s' mv => tab_closes K.inv isTab K.keep L bare on (fun b hb => ?_) mv⟩
  · show b < h5.objs.size
    rw [size]
    rcases hf b hb with rfl | rfl | z
    · exact Nat.lt_succ_self _
    · exact Nat.lt_succ_of_lt above
    · exact Nat.lt_succ_of_lt (Nat.lt_trans z above)
  · obtain ⟨i, at_, q⟩ := hy
    obtain ⟨_, e⟩ := List.getElem?_eq_some_iff.mp at_
    rw [List.getElem_range] at e
    exact e ▸ q
  · rcases hw b hb with rfl | z
    · exact Nat.le_trans K.size L.size
    · exact K.new b z
end
section
variable {X : Cx} {pins : List (Addr × Obj)} {σ : L2.St} {H : Hp} {s : Shared} {c P : Addr} {k : Nat} {Q' : Value → Shared → Prop}
/-- (element for a, b in iter): what is walked hands out pairs; the element gives what F says -/
theorem gen_pairs {elt iter : Expr} {xa xb : Str} {pa pb pt gpos : Pos} {kt : Nat} {scope : Scope} (hr : Room k X.A) (TB : GxR.TabB X.base X.mg c P) (hcode : X.env.code = .ref c) (S : GenS2 X.env.scope scope xa xb) (hs : ∀ v, genFold iter X.env v = pure v) (I : Inv X pins σ H s)
    (h : wpAny (model X.prog X.w) X.A (eval iter X.env) (fun xv t => wpAny (model X.prog X.w) X.A (pyIter xv) (fun it t2 => ∃ (Iad : Addr) (fp wr : List Addr) (n : Nat) (Pt : Nat → Array Value → Prop) (St : Nat → Heap → Prop) (Mid : Nat → Addr → Heap → Prop) (F : Nat → Value → Prop) (q : List (Addr × Obj)) (σ1 : L2.St) (H1 : Hp) (s1 : Shared),
      it = .ref Iad ∧ Walkee X q σ1 H1 P fp wr s1 t2 ∧ (∀ A' : Around, A'.handled = none → WalksU X.prog X.w A' Iad fp wr n Pt St Mid) ∧ (∀ i vals, Pt i vals → ∃ va vb, vals = #[va, vb]) ∧ St 0 t2.heap ∧
      (∀ (cenv : Env) (A' : Around) (E' : Value → Shared → Prop) (i : Nat) (va vb : Value) (u : Shared) (m : Str → Option Value), Turned X P scope s1 cenv A' u → Pt i #[va, vb] → u.heap.Ns cenv.locals m → m xa = some va → m xb = some vb →
        wpAny (model X.prog X.w) A' (eval elt cenv) (fun y u' => F i y ∧ Keeps u u') E' u) ∧
      ∀ g s5, Walked X q σ1 H1 P n F g s5 → Q' (.ref g) s5) X.xe t) X.xe s) :
    wpAny (model X.prog X.w) X.A (eval (.GeneratorExp elt [⟨.Tuple [.Name xa pa, .Name xb pb] kt pt, iter, [], 0⟩] scope gpos) X.env) Q' X.xe s := by
  have room := hr.dp
  refine wpAny_GeneratorExp_walksQTD hr.hd S.co (closure_ok fun y hy e => I.ok.has y.1 (.inl (S.free y hy e))) S.cell S.dot S.la S.lb S.ne S.kind (by omega) (wpAny_mono h (fun xv t h => wpAny_mono h (fun it t2 h => ?_) fun _ _ e => e) fun _ _ e => e) hs
  obtain ⟨Iad, fp, wr, n, Pt, St, Mid, F, q, σ1, H1, s1, rfl, K, W, two, st, turn, out⟩ := h
  obtain ⟨ps, isTab, good⟩ := K.tab
  obtain ⟨h2, n2, rfl⟩ := K.same
  have lim : h2.NoLimit := K.inv.nolimit.keeps K.keep
  refine ⟨lim, tab_opens TB hcode K.inv isTab good K.keep fun cv h3 n3 more L => ⟨Iad, fp, wr, n, Pt, St, Mid, fun _ => true, F, rfl, W, two, (W X.A hr.hd).frame _ _ _ st fun b hb o e => L.rest b o (K.low b hb).2 e, fun b hb => Nat.lt_of_lt_of_le (K.low b hb).1 L.size, lim.extBut L.rest K.statics.1, K.statics.2, fun href on => ⟨?_, ?_⟩, ?_⟩⟩
  · intro A' E' i va vb u m _ _ _ _ _ _ _ _
    exact wpAny_pure ⟨rfl, GxR.keeps_refl _⟩
  · intro A' E' i va vb u m calm deep units at_ _ ns ma mb still
    exact turn _ A' E' i va vb u m (K.turned L on calm deep units still) at_ ns ma mb
  · intro g h5 n5 gs bare above size on W5 st5
    refine out g _ (K.ready isTab L bare above size on (fun b hb => ?_) (fun b hb => List.mem_cons.mp hb) W5 st5)
    exact (List.mem_cons.mp hb).imp_right fun z => (List.mem_cons.mp z).imp_right List.mem_range.mp
/-- (element for a in iter) -/
theorem gen_ones {elt iter : Expr} {x : Str} {px gpos : Pos} {scope : Scope} (hr : Room k X.A) (TB : GxR.TabB X.base X.mg c P) (hcode : X.env.code = .ref c) (S : GenS1 X.env.scope scope x) (hs : ∀ v, genFold iter X.env v = pure v) (I : Inv X pins σ H s)
    (h : wpAny (model X.prog X.w) X.A (eval iter X.env) (fun xv t => wpAny (model X.prog X.w) X.A (pyIter xv) (fun it t2 => ∃ (Iad : Addr) (fp wr : List Addr) (n : Nat) (Pt : Nat → Value → Prop) (St : Nat → Heap → Prop) (F : Nat → Value → Prop) (q : List (Addr × Obj)) (σ1 : L2.St) (H1 : Hp) (s1 : Shared),
      it = .ref Iad ∧ Walkee X q σ1 H1 P fp wr s1 t2 ∧ (∀ A' : Around, A'.handled = none → Walks X.prog X.w A' Iad fp wr n Pt St) ∧ St 0 t2.heap ∧
      (∀ (cenv : Env) (A' : Around) (E' : Value → Shared → Prop) (i : Nat) (va : Value) (u : Shared) (m : Str → Option Value), Turned X P scope s1 cenv A' u → Pt i va → u.heap.Ns cenv.locals m → m x = some va →
        wpAny (model X.prog X.w) A' (eval elt cenv) (fun y u' => F i y ∧ Keeps u u') E' u) ∧
      ∀ g s5, Walked X q σ1 H1 P n F g s5 → Q' (.ref g) s5) X.xe t) X.xe s) :
    wpAny (model X.prog X.w) X.A (eval (.GeneratorExp elt [⟨.Name x px, iter, [], 0⟩] scope gpos) X.env) Q' X.xe s := by
  have room := hr.dp
  refine wpAny_GeneratorExp_walksQD hr.hd S.co (closure_ok fun y hy e => I.ok.has y.1 (.inl (S.free y hy e))) S.cell S.dot S.la S.kind (by omega) (wpAny_mono h (fun xv t h => wpAny_mono h (fun it t2 h => ?_) fun _ _ e => e) fun _ _ e => e) hs
  obtain ⟨Iad, fp, wr, n, Pt, St, F, q, σ1, H1, s1, rfl, K, W, st, turn, out⟩ := h
  obtain ⟨ps, isTab, good⟩ := K.tab
  obtain ⟨h2, n2, rfl⟩ := K.same
  have lim : h2.NoLimit := K.inv.nolimit.keeps K.keep
  refine ⟨lim, tab_opens TB hcode K.inv isTab good K.keep fun cv h3 n3 more L => ⟨Iad, fp, wr, n, Pt, St, fun _ => true, F, rfl, W, (W X.A hr.hd).frame _ _ _ st fun b hb o e => L.rest b o (K.low b hb).2 e, fun b hb => Nat.lt_of_lt_of_le (K.low b hb).1 L.size, lim.extBut L.rest K.statics.1, K.statics.2, fun href on => ⟨?_, ?_⟩, ?_⟩⟩
  · intro A' E' i va u m _ _ _ _ _ _ _
    exact wpAny_pure ⟨rfl, GxR.keeps_refl _⟩
  · intro A' E' i va u m calm deep units at_ _ ns ma still
    exact turn _ A' E' i va u m (K.turned L on calm deep units still) at_ ns ma
  · intro g h5 n5 gs bare above size on W5 st5
    refine out g _ (K.ready isTab L bare above size on (fun b hb => ?_) (fun b hb => List.mem_cons.mp hb) W5 st5)
    exact (List.mem_cons.mp hb).imp_right fun z => (List.mem_cons.mp z).imp_right List.mem_range.mp
/-- a built-in function of a generator expression alone -/
theorem call_gen {b : Str} {f : String} {ge : Expr} {p pos : Pos} {R : Value → Shared → Prop} (hg : Gl X b) (hm : X.mg b = none) (hb : bootBuiltins b = some (.builtin f)) (he : starEach [ge] X.env = (false, eval ge X.env) :: starEach [] X.env) (I : Inv X pins σ H s)
    (h : wpAny (model X.prog X.w) X.A (eval ge X.env) (fun v t => wpAny (model X.prog X.w) X.A (call (.builtin f) [v]) R X.xe t) X.xe s) (hd : (b == ("__debug__" : Str)) = false := by decide) (hn : b ≠ "__name__" := by decide) :
    wpAny (model X.prog X.w) X.A (eval (.Call (.Name b p) [ge] [] pos) X.env) R X.xe s := by
  refine wpAny_Call_Name_kw (ld_blt I hg hm hb (PyProof.Rows.callWith_builtin1 ?_ he (by rfl)) hn hd)
  rw [he]
  exact Calls.spliced_cons (wpAny_mono h (fun v t h => Calls.spliced_nil h) fun _ _ e => e)
theorem truth_of {A : Around} {F' : Nat → Value → Prop} {pb : Nat → Bool} (h : ∀ i v, F' i v → v = .bool (pb i)) : TruthOf X.prog X.w A F' pb := by
  intro i v t Q E at_ q
  cases h i v at_
  exact wpAny_truthy_bool q
end
/-- the built-in names that the top leaves alone -/
structure Names (mg : Str → Option Value) : Prop where
  len : mg "len" = none
  range : mg "range" = none
  max : mg "max" = none
  list : mg "list" = none
  isinstance : mg "isinstance" = none
  int : mg "int" = none
  bool : mg "bool" = none
  enumerate : mg "enumerate" = none
  all : mg "all" = none
/-! ### had -/
abbrev s_had : Stmt := topS 1
abbrev N_had : List Str := ["content", "thing"]
theorem sc_had : FnScope N_had ["content", "thing"] (defScope s_had) := ⟨rfl, rfl, rfl, by decide +kernel, rfl, by decide +kernel, by decide +kernel⟩

def hadM (cs : List Int) (i : Nat) : Int := cs.getD i 0
theorem hadM_in {cs : List Int} {i : Nat} (h : i < cs.length) : cs[i]? = some (hadM cs i) := by
  unfold hadM
  rw [List.getD_eq_getElem?_getD, List.getElem?_eq_getElem h]
  rfl
theorem hadM_out {cs : List Int} {i : Nat} (h : ¬ i < cs.length) : hadM cs i = 0 := by
  unfold hadM
  rw [List.getD_eq_getElem?_getD, List.getElem?_eq_none (by omega)]
  rfl
def sp_had (K : PySem.W.Frag) : Sp := fun vs H Q _ => ∃ (a : Addr) (cs : List Int) (i : Nat), vs = [.ref a, .int i] ∧ SqL K H a (cs.map V.int) ∧ Q (.int (hadM cs i)) H
section
variable {P : Program} {w : World} {K : PySem.W.Frag} {mg : Str → Option Value} {base : Heap}
theorem ok_had {f : Addr} {fd : FuncData} {k : Nat} (M : Names mg) (D : Def K mg "had" s_had ["content", "thing"] f fd) : FnOk P w K mg base CX0 (k + 1) f fd ["content", "thing"] (sp_had K) := by
  refine D.F.ok sc_had (fun vs H Q E h => ?_) (fun cdv A outer s H vs Q E hr h => ?_)
  · obtain ⟨a, cs, i, rfl, _⟩ := h
    rfl
  · obtain ⟨a, cs, i, rfl, ha, q⟩ := h
    refine ⟨_, (pss_one (ps_ret (pe_ifExp (pt_cmpR op_lt (pv 1) (pe_callB call_len_seq (by rfl) M.len (by decide +kernel) (pa_cons (pv 0) pa_nil)) (nomark _)) (pe_ix ix_list (pv 0) (pv 1) (fun _ _ => rfl)) pe_int))), ?_⟩
    refine ⟨_, rfl, _, rfl, a, _, rfl, .inl ha, _, _, rfl, rfl, _, rfl, ite2 (fun c => ?_) (fun c => ?_)⟩
    · have c2 : (i : Int) < ((cs.map V.int).length : Int) := of_decide_eq_true c
      rw [List.length_map] at c2
      exact ⟨_, rfl, _, rfl, a, _, _, _, rfl, rfl, ha, atI_nat (get_ints (hadM_in (by omega))), q⟩
    · have c2 : ¬ (i : Int) < ((cs.map V.int).length : Int) := fun z => c (decide_eq_true z)
      rw [List.length_map] at c2
      rw [hadM_out (by omega)] at q
      exact q
/-- had, called where nothing is known of the frames: all objects stay -/
theorem had_quiet {f : Addr} {fd : FuncData} {mb : Str → Option Value} (M : Names mg) (D : Def K mg "had" s_had ["content", "thing"] f fd) {A' : Around} {E' : Value → Shared → Prop} {s : Shared} {L : Addr} {cs : List Int} {its : List Value} {i : Nat} {t : Tok} (KX : K.In s.heap)
    (hg : s.heap.Ns mainGlobals mg) (hb : s.heap.Ns builtinsNs mb) (hbb : ∀ x : Str, x ≠ "__name__" → mb x = bootBuiltins x) (hlim : s.heap.NoLimit) (hA : A'.depth < recursionLimit)
    (hL : s.heap.IsList L its.toArray) (rv : Vals (cs.map V.int) its) (hz : cs.length ≤ sizeLine) :
    wpAny (model P w) A' (call (.ref f) [.ref L, .int i t]) (fun y s₃ => (∃ t', y = .int (hadM cs i) t') ∧ Keeps s s₃) E' s := by
  obtain ⟨oc, od, kV, doc, pm, an, cdv, ct, osl, rfl, lk, hcd⟩ := D.F.ex
  refine wpAny_call (Att.call_fn KX hlim lk hcd hA (D.b s [.ref L, .int i t] KX rfl) (by rfl) (fun s₁ x => ?_) rfl rfl rfl)
  obtain ⟨h1, tk1, e1, keep1⟩ := x.done
  have hn := x.toInCall.ns
  subst e1
  have hL1 : h1.IsList L its.toArray := hL.at fun o e => keep1 L o e
  have hll := rv.length
  rw [List.length_map] at hll
  have hn63 := line63
  have fin : ∀ (v : Value) (s' : Shared), (∃ t', v = .int (hadM cs i) t') → Keeps { s with heap := h1, toks := tk1 } s' → (∃ t', v = .int (hadM cs i) t') ∧ Keeps s s' := fun v s' hv ⟨h', tk', e, kk⟩ => ⟨hv, h', tk', e, fun b o e => kk b o (keep1 b o e)⟩
  have nameC : ∀ {Q : Value → Shared → Prop} {E : Value → Shared → Prop} {pos : Pos} {tk : Nat}, Q (.ref L) { s with heap := h1, toks := tk } → wpAny (model P w) (A'.deeper (envOfC "had" (defScope s_had) s.heap.objs.size f cdv)) (eval (.Name "content" pos) (envOfC "had" (defScope s_had) s.heap.objs.size f cdv)) Q E { s with heap := h1, toks := tk } := fun h => wpAny_Name (wpAny_loadName_local rfl rfl hn rfl h)
  have nameT : ∀ {Q : Value → Shared → Prop} {E : Value → Shared → Prop} {pos : Pos} {tk : Nat}, Q (.int i t) { s with heap := h1, toks := tk } → wpAny (model P w) (A'.deeper (envOfC "had" (defScope s_had) s.heap.objs.size f cdv)) (eval (.Name "thing" pos) (envOfC "had" (defScope s_had) s.heap.objs.size f cdv)) Q E { s with heap := h1, toks := tk } := fun h => wpAny_Name (wpAny_loadName_local rfl rfl hn rfl h)
  show wpAny _ _ (execs (defBody s_had) (envOfC "had" (defScope s_had) s.heap.objs.size f cdv)) _ _ _
  refine wpAny_execs_cons (wpAny_Return_some (wpAny_IfExp (wpAny_isTrue_Compare1 (nameT ?_))))
  refine wpAny_Call_Name_kw (Calls.Name_function_global rfl rfl (Calls.loadGlobal_builtin (hg.keeps keep1) M.len (hb.keeps keep1) ((hbb "len" (by decide)).trans boot_len) ?_))
  refine PyProof.Rows.callWith_builtin1 (Calls.spliced_cons (nameC (Calls.spliced_nil ?_)))
  refine Calls.call_len_list (hl := hL1) (by rw [List.size_toArray]; omega) ?_
  refine lt_int (wpAny_truthy_bool ?_)
  by_cases c : (i : Int) < (its.toArray.size : Int)
  · rw [decide_eq_true c]
    rw [List.size_toArray] at c
    have hi : i < cs.length := by omega
    obtain ⟨u, hu, ru⟩ := rv.get (get_ints (hadM_in hi))
    obtain ⟨t', rfl⟩ := ru
    refine Subscript_ (nameC (nameT ?_))
    refine item_listR hL1 (by omega) (by omega) (x := .int (hadM cs i) t') (by rw [Int.toNat_natCast]; simpa using hu) ?_
    exact fin _ _ ⟨t', rfl⟩ ⟨_, _, rfl, fun b o e => e⟩
  · rw [decide_eq_false c]
    rw [List.size_toArray] at c
    refine wpAny_Constant_int ?_
    exact fin _ _ ⟨_, by rw [hadM_out (by omega)]⟩ ⟨_, _, rfl, fun b o e => e⟩
end
/-! ### all(test for a, b in enumerate(list)) -/
def tAllE (K : PySem.W.Frag) (P : Addr) (R : L2.St → Hp → List V → (Nat → Bool) → Prop) (te : TE) : TE := fun σ H Q => te σ H fun v H1 => ∃ (a : Addr) (xs : List V) (pb : Nat → Bool), v = .ref a ∧ SqL K H1 a xs ∧ GxR.TabG H1 P ∧ R σ H1 xs pb ∧
  ∀ H2, GxR.Tabbed P H1 H2 → Q (.bl ((List.range xs.length).all pb)) H2
/-- what the element is to do at one pair -/
def EltE (X : Cx) (P : Addr) (scope : Scope) (xa xb : Str) (elt : Expr) (R : L2.St → Hp → List V → (Nat → Bool) → Prop) : Prop :=
  ∀ (pins : List (Addr × Obj)) (σ : L2.St) (H1 : Hp) (s1 : Shared) (xs : List V) (pb : Nat → Bool), Inv X pins σ H1 s1 → GxR.TabG H1 P → R σ H1 xs pb →
    ∀ (cenv : Env) (A' : Around) (E' : Value → Shared → Prop) (i : Nat) (v : V) (va vb : Value) (s₂ : Shared) (m₂ : Str → Option Value), cenv.scope = scope → cenv.cells = cloFrom X.env.cells scope.names [] → cenv.globals = mainGlobals → cenv.builtins = builtinsNs →
      A'.handled = none → A'.depth ≤ X.A.depth + 1 → A'.units ≤ X.A.units + 8 → xs[i]? = some v → (∃ t, va = .int (i : Nat) t) → RelV v vb → s₂.heap.Ns cenv.locals m₂ → m₂ xa = some va → m₂ xb = some vb → (∀ b o, b ≠ P → s1.heap.get? b = some o → s₂.heap.get? b = some o) →
      wpAny (model X.prog X.w) A' (eval elt cenv) (fun y s₃ => y = .bool (pb i) ∧ Keeps s₂ s₃) E' s₂
section
variable {X : Cx}
theorem pe_allEnum {c P : Addr} {elt e : Expr} {xa xb : Str} {pa pb' pt p pos gpos epos ep : Pos} {kt : Nat} {scope : Scope} {te : TE} {k : Nat} {R : L2.St → Hp → List V → (Nat → Bool) → Prop}
    (hr : Room k X.A) (hg : Gl X "all") (hm : X.mg "all" = none) (hb : bootBuiltins "all" = some (.builtin "all")) (hge : Gl X "enumerate") (hme : X.mg "enumerate" = none) (TB : GxR.TabB X.base X.mg c P) (hcode : X.env.code = .ref c) (S : GenS2 X.env.scope scope xa xb) (hi : PE X e te)
    (hel : EltE X P scope xa xb elt R)
    (hs : ∀ v, genFold (.Call (.Name "enumerate" ep) [e] [] epos) X.env v = pure v := by intro _; rfl)
    (hs1 : starEach [e] X.env = [(false, eval e X.env)] := by rfl)
    (he : starEach [.GeneratorExp elt [⟨.Tuple [.Name xa pa, .Name xb pb'] kt pt, .Call (.Name "enumerate" ep) [e] [] epos, [], 0⟩] scope gpos] X.env = (false, eval (.GeneratorExp elt [⟨.Tuple [.Name xa pa, .Name xb pb'] kt pt, .Call (.Name "enumerate" ep) [e] [] epos, [], 0⟩] scope gpos) X.env) :: starEach [] X.env := by rfl) :
    PE X (.Call (.Name "all" p) [.GeneratorExp elt [⟨.Tuple [.Name xa pa, .Name xb pb'] kt pt, .Call (.Name "enumerate" ep) [e] [] epos, [], 0⟩] scope gpos] [] pos) (tAllE X.K P R te) := by
  refine ⟨fun pins s σ H Q I h => call_gen hg hm hb he I (gen_pairs hr TB hcode S hs I (Call_ (ld_blt I hge hme boot_enumerate (PyProof.Rows.callWith_type1 ?_ hs1 rfl))))⟩
  rw [hs1]
  refine Calls.spliced_cons (thn (hi.run pins s σ H _ I h) fun u0 s1 r => Calls.spliced_nil ?_)
  obtain ⟨_, H1, J, isRef, a, xs, pb, rfl, sq, tab, hR, q⟩ := r
  cases isRef
  obtain ⟨its, rv, at_, _⟩ := J.list sq
  refine call_enumerate_list at_.isList fun h' isEn isIt size keep => wpAny_pyIter_enum isEn ?_
  have la : a < s1.heap.objs.size := at_.lt
  have below : s1.heap.objs.size < h'.objs.size := isIt.elim fun _ x => Heap.lt_size x.1
  obtain ⟨oa, ea, ca, _⟩ := id at_.isList
  have aP : a ≠ P := tab_ne J tab ea (.inl fun z => by rw [ca] at z; cases z)
  have lP : P < s1.heap.objs.size := tab.elim fun _ x => Heap.lt_size (show s1.heap.get? P = _ from J.hok P _ x.1)
  have W := fun (A' : Around) (calm : A'.handled = none) => (WalksT.enumerate (prog := X.prog) (w := X.w) calm (s1.heap.objs.size + 1) s1.heap.objs.size a (Nat.succ_ne_self _) (Nat.ne_of_lt (Nat.lt_succ_of_lt la)) (Nat.ne_of_lt la) its.toArray).toU
  refine ⟨_, _, _, _, _, _, _, fun i y => y = .bool (pb i), pins, σ, H1, s1, rfl, ⟨J, tab, ⟨_, _, rfl⟩, keep, Nat.le_of_lt below, fun b hb => ?_, fun b hb => ?_⟩, W, fun i vals x => ?_, ⟨⟨_, isEn⟩, isIt, at_.isList.at fun o x => keep a o x⟩, ?_, ?_⟩
  · simp only [List.mem_cons, List.not_mem_nil, or_false] at hb
    rcases hb with rfl | rfl | rfl
    · exact ⟨Heap.lt_size isEn, Nat.ne_of_gt (Nat.lt_succ_of_lt lP)⟩
    · exact ⟨below, Nat.ne_of_gt lP⟩
    · exact ⟨Nat.lt_trans la below, aP⟩
  · simp only [List.mem_cons, List.not_mem_nil, or_false] at hb
    rcases hb with rfl | rfl
    · exact Nat.le_succ _
    · exact Nat.le_refl _
  · exact x.elim fun _ x => x.elim fun _ x => ⟨_, _, x.2⟩
  · intro cenv A' E' i va vb u m T at_ ns ma mb
    obtain ⟨t, x, hx, e'⟩ := at_
    obtain ⟨rfl, rfl⟩ : va = .int i t ∧ vb = x := by simpa using congrArg Array.toList e'
    have there : its[i]? = some vb := by simpa using hx
    obtain ⟨v, hv⟩ : ∃ v, xs[i]? = some v := ⟨_, List.getElem?_eq_getElem (rv.length.symm ▸ (List.getElem?_eq_some_iff.mp there).1)⟩
    obtain ⟨w, hw, rw_⟩ := rv.get hv
    cases there.symm.trans hw
    exact hel pins σ H1 s1 xs pb J tab hR cenv A' E' i v _ _ u m T.own T.cells T.glob T.blt T.calm T.deep T.units hv ⟨t, rfl⟩ rw_ ns ma mb T.still
  · rintro g s5 ⟨fp, wr, G, F', St, W, st, _, say, held⟩
    refine call_all_walkS (W.self 0 _ _ _ st ⟨g, fp, wr, G, _, F', St, pb, rfl, W, st, truth_of say, fun s' mv => ?_⟩)
    obtain ⟨H2, grown, J2⟩ := held s' mv
    refine ⟨.bl _, H2, J2, rfl, ?_⟩
    rw [List.size_toArray, ← rv.length]
    exact q H2 grown
end
/-- F.ok with the code object told -/
theorem okc {P : Program} {w : World} {K : PySem.W.Frag} {mg : Str → Option Value} {base : Heap} {x qual : Str} {st : Stmt} {f c : Addr} {fd : FuncData} {N ps : List Str} {k : Nat} {sp : Sp} (F : Fun K x qual st f fd) (hc : fd.code = .ref c) (S : FnScope N ps (defScope st)) (len : ∀ vs H Q E, sp vs H Q E → vs.length = ps.length)
    (hbody : ∀ (cdv : Value) (A : Around) (outer : List Env) (s : Shared) (H : Hp) (vs : List V) (Q : VK) (E : XK), cdv = .ref c → Room k (A.deeper (envOfC qual (defScope st) s.heap.objs.size f cdv)) → sp vs H Q E →
      ∃ t, PSs (cxOf CX0 P w K mg base N qual (defScope st) f cdv A outer s H E).nox (defBody st) t ∧ t { nx := fun _ H' => Q .non H', rt := Q } (start N vs) H) : FnOk P w K mg base CX0 (k + 1) f fd ps sp := by
  obtain ⟨oc, od, kV, doc, pm, an, cdv, ct, osl, rfl, lk, hcd⟩ := F.ex
  refine fn_of lk hcd S len fun A outer s H vs Q E hr hsp => ?_
  obtain ⟨t, h, q⟩ := hbody cdv A outer s H vs Q E hc hr hsp
  exact ⟨t, h.nox, q⟩
/-! ### covers, rest -/
abbrev s_covers : Stmt := topS 2
abbrev N_covers : List Str := ["content", "want", "thing", "number"]
theorem sc_covers : FnScope N_covers ["content", "want"] (defScope s_covers) := ⟨rfl, rfl, rfl, by decide +kernel, rfl, by decide +kernel, by decide +kernel⟩

abbrev s_rest : Stmt := topS 3
abbrev N_rest : List Str := ["want", "content", "thing", "number"]
theorem sc_rest : FnScope N_rest ["want", "content"] (defScope s_rest) := ⟨rfl, rfl, rfl, by decide +kernel, rfl, by decide +kernel, by decide +kernel⟩

def coversM (cs ws : List Int) : Bool := (List.range ws.length).all fun i => decide (ws.getD i 0 ≤ hadM cs i)
def sp_covers (K : PySem.W.Frag) (P : Addr) : Sp := fun vs H Q _ => ∃ (a b : Addr) (cs ws : List Int), vs = [.ref a, .ref b] ∧ SqL K H a (cs.map V.int) ∧ SqL K H b (ws.map V.int) ∧ GxR.TabG H P ∧ ∀ H', GxR.Tabbed P H H' → Q (.bl (coversM cs ws)) H'
/-- the element: had(content, thing) >= number -/
def RCov (K : PySem.W.Frag) : L2.St → Hp → List V → (Nat → Bool) → Prop := fun σ H xs pb => ∃ (a : Addr) (cs ws : List Int), σ[0]? = some (some (.ref a)) ∧ SqL K H a (cs.map V.int) ∧ xs = ws.map V.int ∧ pb = fun i => decide (ws.getD i 0 ≤ hadM cs i)
section
variable {P : Program} {w : World} {K : PySem.W.Frag} {mg : Str → Option Value} {base : Heap}
theorem ok_covers {f fh c T : Addr} {fd fdh : FuncData} {k : Nat} (M : Names mg) (D : Def K mg "covers" s_covers ["content", "want"] f fd) (hc : fd.code = .ref c) (TB : GxR.TabB base mg c T) (D_had : Def K mg "had" s_had ["content", "thing"] fh fdh) :
    FnOk P w K mg base CX0 (k + 2) f fd ["content", "want"] (sp_covers K T) := by
  refine okc D.F hc sc_covers (fun vs H Q E h => ?_) (fun cdv A outer s H vs Q E ec hr h => ?_)
  · obtain ⟨a, b, cs, ws, rfl, _⟩ := h
    rfl
  · obtain ⟨a, b, cs, ws, rfl, ha, hb, hT, q⟩ := h
    refine ⟨_, pss_one (ps_ret (pe_allEnum (R := RCov K) hr (by rfl) M.all (by decide +kernel) (by rfl) M.enumerate TB ec ⟨rfl, rfl, by decide +kernel, rfl, rfl, rfl, by decide, (by show ∀ y : Str × NameKind, y ∈ _ → y.2 = .free → (defScope s_covers).names.lookup y.1 = some .cell; decide +kernel)⟩ (pv 1) ?_)), ?_⟩
    · intro pins σ H1 s1 xs pb I1 hT1 hR cenv A' E' i v va vb s₂ m₂ c1 c2 c3 c4 c5 c6 c7 hv hva rvb hn hma hmb hk
      obtain ⟨a1, cs1, ws1, e0, hS1, rfl, rfl⟩ := hR
      obtain ⟨t, rfl⟩ := hva
      obtain ⟨n, hnn, rfl⟩ := of_get_ints hv
      obtain ⟨t2, rfl⟩ := rvb
      obtain ⟨m1, hns1, hl1⟩ := I1.loc
      obtain ⟨u, ru, lk⟩ := hl1 0 "content" _ rfl e0 (.inr (.inl rfl))
      cases ru
      rcases lk with ⟨kk, _⟩ | ⟨_, cc, hcc, hcell⟩
      · exact absurd (show (defScope s_covers).names.lookup ("content" : Str) = some .local from kk) (by decide +kernel)
      · obtain ⟨its, rv, pl, hz⟩ := I1.list hS1
        rw [List.length_map] at hz
        obtain ⟨oc, eoc, doc⟩ := id hcell
        have ncP : cc ≠ T := tab_ne I1 hT1 eoc (.inr fun vs z => by rw [doc] at z; cases z)
        obtain ⟨oa, ea, ca, na, da⟩ := id pl.isList
        have naP : a1 ≠ T := tab_ne I1 hT1 ea (.inl (by rw [ca]; exact fun z => nomatch z))
        have keepB : ∀ b o, base.get? b = some o → s₂.heap.get? b = some o := fun b o e => hk b o (fun z => by
          obtain ⟨ps, hP, _⟩ := hT1
          have := (I1.bs b o e).2
          rw [z, hP] at this
          cases this) (I1.bk b o e)
        have KX : K.In s₂.heap := I1.ok.mod.kin.keeps keepB
        have hG : s₂.heap.Ns mainGlobals mg := I1.ok.mod.glob.keeps keepB
        obtain ⟨mb, hB, hbb⟩ := I1.ok.mod.blt
        have hcell2 : s₂.heap.IsCell cc (some (.ref a1)) := ⟨oc, hk _ _ ncP eoc, doc⟩
        have hL2 : s₂.heap.IsList a1 its.toArray := pl.isList.at fun o e => hk _ _ naP e
        have hcl : cenv.cells.lookup ("content" : Str) = some cc := by
          rw [c2]
          show some (((envOfC "covers" (defScope s_covers) s.heap.objs.size f cdv).cells.lookup ("content" : Str)).getD 0) = some cc
          rw [show (envOfC "covers" (defScope s_covers) s.heap.objs.size f cdv).cells.lookup ("content" : Str) = some cc from hcc]
          rfl
        have dep : A'.depth < recursionLimit := by
          have := hr.dp
          have c6' : A'.depth ≤ (A.deeper (envOfC "covers" (defScope s_covers) s.heap.objs.size f cdv)).depth + 1 := c6
          omega
        have sk : cenv.scope.kind = .function := by rw [c1]
        refine wpAny_Compare1 ?_
        refine wpAny_Call_Name_kw (Calls.Name_function_global sk (by show cenv.scope.names.lookup ("had" : Str) = _; rw [c1]; rfl) (Calls.loadGlobal_global (by rw [c3]; exact hG) D_had.g ?_))
        refine PySem.W.callWith_K (h₀ := base) I1.ok.mod.kin D_had.F.kp (Calls.spliced_cons (wpAny_Name (wpAny_loadName_free sk (by show cenv.scope.names.lookup ("content" : Str) = _; rw [c1]; rfl) hcl hcell2 ?_)))
        refine Calls.spliced_cons (wpAny_Name (wpAny_loadName_local sk (by show cenv.scope.names.lookup ("thing" : Str) = _; rw [c1]; rfl) hn hma (Calls.spliced_nil ⟨KX, ?_⟩)))
        refine wpAny_mono (had_quiet (i := i) M D_had KX hG (hB.keeps keepB) hbb (I1.ok.mod.nolimit.keeps keepB) dep hL2 rv hz) (fun y s₃ hy => ?_) fun _ _ z => z
        obtain ⟨⟨t', rfl⟩, h3, tk3, rfl, kk3⟩ := hy
        refine wpAny_Name (wpAny_loadName_local (m := m₂) sk (by show cenv.scope.names.lookup ("number" : Str) = _; rw [c1]; rfl) (hn.keeps kk3) hmb ?_)
        refine ge_int ⟨?_, h3, tk3, rfl, kk3⟩
        show Value.bool _ = Value.bool (decide (ws1.getD i 0 ≤ _))
        rw [show ws1.getD i 0 = n by rw [List.getD_eq_getElem?_getD, hnn]; rfl]
    · refine ⟨.ref b, rfl, b, _, _, rfl, hb, hT, ⟨a, cs, ws, rfl, ha, rfl, rfl⟩, fun H2 hT2 => ?_⟩
      rw [List.length_map]
      exact q H2 hT2
end
/-! ### rest -/
def restM (ws cs : List Int) : List Int := (List.range ws.length).map fun i => if ws.getD i 0 - hadM cs i > 0 then ws.getD i 0 - hadM cs i else 0
theorem restM_get {ws cs : List Int} {i : Nat} {n : Int} (h : ws[i]? = some n) : (restM ws cs)[i]? = some (if n - hadM cs i > 0 then n - hadM cs i else 0) := by
  have hi : i < ws.length := (List.getElem?_eq_some_iff.mp h).1
  unfold restM
  rw [List.getElem?_map, List.getElem?_range hi]
  show some (if ws.getD i 0 - hadM cs i > 0 then ws.getD i 0 - hadM cs i else 0) = _
  rw [show ws.getD i 0 = n by rw [List.getD_eq_getElem?_getD, h]; rfl]
theorem restM_len (ws cs : List Int) : (restM ws cs).length = ws.length := by
  unfold restM
  rw [List.length_map, List.length_range]
def sp_rest (K : PySem.W.Frag) : Sp := fun vs H Q _ => ∃ (a b : Addr) (ws cs : List Int), vs = [.ref a, .ref b] ∧ SqL K H a (ws.map V.int) ∧ SqL K H b (cs.map V.int) ∧ ws.length ≤ 1000 ∧ ∀ H' p, Same H H' → H p = none → H' p = some (LI (restM ws cs)) → Q (.ref p) H'
section
variable {P : Program} {w : World} {K : PySem.W.Frag} {mg : Str → Option Value} {base : Heap}
theorem ok_rest {f fh : Addr} {fd fdh : FuncData} {k : Nat} (M : Names mg) (D : Def K mg "rest" s_rest ["want", "content"] f fd) (D_had : Def K mg "had" s_had ["content", "thing"] fh fdh) : FnOk P w K mg base CX0 (k + 2) f fd ["want", "content"] (sp_rest K) := by
  have G_had : FnOk P w K mg base CX0 (k + 1) fh fdh ["content", "thing"] (sp_had K) := ok_had M D_had
  refine D.F.ok sc_rest (fun vs H Q E h => ?_) (fun cdv A outer s H vs Q E hr h => ?_)
  · obtain ⟨a, b, ws, cs, rfl, _⟩ := h
    rfl
  · obtain ⟨a, b, ws, cs, rfl, ha, hb, hl, q⟩ := h
    refine ⟨_, (pss_one (ps_ret (pe_lc (own := [("thing", 2), ("number", 3)]) (by rfl) sc_rest.nd (pi_enum (by rfl) M.enumerate (pa_cons (pv 0) pa_nil)) (blkOk_by (own := [("thing", 2), ("number", 3)]) (N := N_rest) (sc := defScope s_rest) (by decide +kernel)) (fun _ _ _ _ _ => (pg_tupK (K := K) (n := 2) rfl rfl (pgs_cons (pg_name (i := 2) sc_rest.nd rfl (Or.inl rfl)) (pgs_cons (pg_name (i := 3) sc_rest.nd rfl (Or.inl rfl)) pgs_nil)))) (fun _ _ _ _ _ => pts_nil) (fun _ _ _ _ _ => (pe_callB (call_max2 rfl) (by rfl) M.max (by decide +kernel) (pa_cons pe_int (pa_cons (pe_op op_sub (pv 3) (pe_call G_had hr (by rfl) D_had.g D_had.F.kp D_had.b .nil pass0 (pa_cons (pv 1) (pa_cons (pv 2) pa_nil)))) pa_nil))))))), ?_⟩
    refine ⟨_, rfl, a, _, rfl, ha, fun L nL => lc_it (walk_enum (xs := ws.map V.int)) (fun i H' => Same H H' ∧ H' L = some (LI ((restM ws cs).take i))) ⟨same_upd nL, upd_same⟩ (fun i H' _ hp => hp.1.seq ha) (fun i x H1 H2 hi hp hy => ?_) (fun H1 hp => ?_)⟩
    · obtain ⟨s1, hL⟩ := hp
      obtain ⟨T, x1, x2, rfl, nT, rfl, e1, e2⟩ := hy
      cases Option.some.inj e1
      obtain ⟨n, hn, rfl⟩ := of_get_ints e2
      have nLT : L ≠ T := ne_of_none hL nT
      have s2 : Same H (upd H1 T (.tup [.int (i : Nat), .int n])) := s1.trans (same_upd nT)
      rw [List.length_map] at hi
      refine ⟨T, _, rfl, SqT.of upd_same, rfl, _, _, rfl, _, _, rfl, rfl, rfl, _, rfl, _, rfl, _, rfl, b, cs, i, rfl, s2.seq hb, _, _, rfl, rfl, _, _, rfl, _, (by rw [upd_ne nLT]; exact hL), szL' (by rw [List.length_map, List.length_take]; omega), sm_new s2 nL, ?_⟩
      rw [take_succ_at (restM_get hn)]
      exact at_app
    · obtain ⟨s1, hL⟩ := hp
      rw [List.length_map, List.take_of_length_le (by rw [restM_len]; omega)] at hL
      exact q _ L s1 nL hL
end
/-! ### _law_pop -/
abbrev s_law_pop : Stmt := topS 6
abbrev N_law_pop : List Str := ["_law_draws_here"]
theorem sc_law_pop : FnScope N_law_pop ["_law_draws_here"] (defScope s_law_pop) := ⟨rfl, rfl, rfl, by decide +kernel, rfl, by decide +kernel, by decide +kernel⟩

def sp_pop : Sp := fun vs H Q _ => ∃ (a : Addr) (ns : List Int), vs = [.ref a] ∧ H a = some (LI ns) ∧ ∀ H', SameBut a H H' → H' a = some (LI ns.tail) → Q (.int (ns.headD 0)) H'
section
variable {P : Program} {w : World} {K : PySem.W.Frag} {mg : Str → Option Value} {base : Heap}
theorem ok_pop {f : Addr} {fd : FuncData} {k : Nat} (D : Def K mg "_law_pop" s_law_pop ["_law_draws_here"] f fd) : FnOk P w K mg base CX0 (k + 1) f fd ["_law_draws_here"] sp_pop := by
  refine D.F.ok sc_law_pop (fun vs H Q E h => ?_) (fun cdv A outer s H vs Q E hr h => ?_)
  · obtain ⟨a, ns, rfl, _⟩ := h
    rfl
  · obtain ⟨a, ns, rfl, ha, q⟩ := h
    refine ⟨_, (pss_cons (ps_if (pt_cmpR (op_eqD hr.units) (pv 0) (pe_lst pa_nil) (nomark _))
   (pss_one (ps_ret pe_int))
   pss_nil)
  (pss_one (ps_ret (pe_bm PySem.F.plainAttrs_list PySem.F.slot_list_pop PySem.F.type_list_pop mt_popAt (pv 0) (pa_cons pe_int pa_nil))))), ?_⟩
    refine ⟨.ref a, rfl, Nat.zero_le _, fun p np => ?_⟩
    have ne : a ≠ p := ne_of_none ha np
    have ha1 : upd H p (.lst []) a = some (LI ns) := by rw [upd_ne ne]; exact ha
    have s1 : SameBut a H (upd H p (.lst [])) := .of (same_upd np)
    refine ⟨_, _, dp_ints (SqL.of ha1), dp_ints (ns := []) (SqL.of upd_same), shaped_ints _, shaped_ints _, _, rfl, ite2 (fun e => ?_) (fun e => ?_)⟩
    · rw [eqv_ints] at e
      have e2 : ns = [] := of_decide_eq_true e
      subst e2
      exact q _ s1 ha1
    · rw [eqv_ints] at e
      cases ns with
      | nil => exact absurd (decide_eq_true rfl) e
      | cons n r =>
        refine ⟨.ref a, rfl, .inl ⟨rfl, _, SqL.of ha1⟩, a, _, 0, 0, .int n, rfl, rfl, ha1, by decide, by decide, ?_, rfl, ?_⟩
        · rw [List.length_map, List.length_cons]
          exact (ixN_seq (ixN_nat (Nat.succ_pos _))).1
        · exact q _ (s1.trans .upd) upd_same
end
/-! ### _law_cases -/
abbrev s_law_cases : Stmt := topS 10
abbrev N_law_cases : List Str := ["_law_want_here", "_law_found", "_law_number"]
theorem sc_law_cases : FnScope N_law_cases ["_law_want_here"] (defScope s_law_cases) := ⟨rfl, rfl, rfl, by decide +kernel, rfl, by decide +kernel, by decide +kernel⟩

def casesM (ws : List Int) : Int := ws.foldl (fun p w => p * (w + 1)) 1
theorem casesM_take {ws : List Int} {i : Nat} {x : Int} (h : ws[i]? = some x) : casesM (ws.take (i + 1)) = casesM (ws.take i) * (x + 1) := by
  unfold casesM
  rw [take_succ_at h, List.foldl_append]
  rfl
def sp_cases (K : PySem.W.Frag) : Sp := fun vs H Q _ => ∃ (a : Addr) (ws : List Int), vs = [.ref a] ∧ SqL K H a (ws.map V.int) ∧ (∀ w ∈ ws, -1000000 ≤ w ∧ w ≤ 1000000) ∧ Q (.int (casesM ws)) H
section
variable {P : Program} {w : World} {K : PySem.W.Frag} {mg : Str → Option Value} {base : Heap}
theorem ok_cases {f : Addr} {fd : FuncData} {k : Nat} (D : Def K mg "_law_cases" s_law_cases ["_law_want_here"] f fd) : FnOk P w K mg base CX0 (k + 1) f fd ["_law_want_here"] (sp_cases K) := by
  refine D.F.ok sc_law_cases (fun vs H Q E h => ?_) (fun cdv A outer s H vs Q E hr h => ?_)
  · obtain ⟨a, ns, rfl, _⟩ := h
    rfl
  · obtain ⟨a, ws, rfl, ha, hw, q⟩ := h
    refine ⟨_, (pss_cons (ps_set (i := 1) sc_law_cases.nd rfl (Or.inl rfl) pe_int)
  (pss_cons (ps_for PassesOwn.never rfl (pi_list (pv 0)) (pg_name (i := 2) sc_law_cases.nd rfl (Or.inl rfl))
   (pss_one (ps_set (i := 1) sc_law_cases.nd rfl (Or.inl rfl) (pe_op op_mul (pv 1) (pe_op op_add (pv 2) pe_int)))))
  (pss_one (ps_ret (pv 1))))), ?_⟩
    refine ⟨.ref a, rfl, a, rfl, ⟨_, ha⟩, for_list (xs := ws.map V.int) (fun i σ H' => ∃ y, σ = [some (.ref a), some (.int (casesM (ws.take i))), y] ∧ H' = H) ⟨none, rfl, rfl⟩ (fun i σ H' _ hp => ?_) (fun i x σ H' hx hp => ?_) (fun σ H' hp => ?_)⟩
    · obtain ⟨y, _, rfl⟩ := hp
      exact ha
    · obtain ⟨y, rfl, rfl⟩ := hp
      obtain ⟨n, hn, rfl⟩ := of_get_ints hx
      have b := hw n (List.mem_of_getElem? hn)
      refine ⟨_, rfl, _, rfl, _, _, rfl, rfl, _, _, rfl, rfl, .inr ⟨by omega, by omega⟩, some (.int n), ?_, rfl⟩
      rw [casesM_take hn]
      rfl
    · obtain ⟨y, rfl, rfl⟩ := hp
      refine ⟨_, rfl, ?_⟩
      rw [List.length_map, List.take_length]
      exact q
end
/-! ### _law_draws -/
abbrev s_law_draws : Stmt := topS 5
abbrev N_law_draws : List Str := ["_law_script", "_law_turn", "_law_many", "_law_cells", "_law_found", "_law_k", "_law_left", "_law_place", "_law_number", "_law_at", "_law_cell"]
theorem sc_law_draws : FnScope N_law_draws ["_law_script", "_law_turn", "_law_many"] (defScope s_law_draws) := ⟨rfl, rfl, rfl, by decide +kernel, rfl, by decide +kernel, by decide +kernel⟩

theorem cut_to (ns : List Int) (k : Nat) : cutV (ns.map V.int) none (some (k : Int)) = (ns.take k).map V.int := by
  unfold cutV
  rw [HT.sIx_nat, HT.sIx_none, List.drop_zero, Nat.sub_zero, List.map_take]
  exact (List.take_eq_take_iff).mpr (by omega)
def sp_draws (K : PySem.W.Frag) : Sp := fun vs H Q _ => ∃ (a : Addr) (ns : List Int) (t m : Nat), vs = [.ref a, .int t, .int m] ∧ SqL K H a (ns.map V.int) ∧ ns.length ≤ 1000 ∧ t ≤ 1000 ∧ m ≤ 1000 ∧
  ∀ H' p ds, Same H H' → H p = none → H' p = some (LI ds) → Q (.ref p) H'
section
variable {P : Program} {w : World} {K : PySem.W.Frag} {mg : Str → Option Value} {base : Heap}
theorem ok_draws {f : Addr} {fd : FuncData} {k : Nat} (M : Names mg) (D : Def K mg "_law_draws" s_law_draws ["_law_script", "_law_turn", "_law_many"] f fd) :
    FnOk P w K mg base CX0 (k + 1) f fd ["_law_script", "_law_turn", "_law_many"] (sp_draws K) := by
  refine D.F.ok sc_law_draws (fun vs H Q E h => ?_) (fun cdv A outer s H vs Q E hr h => ?_)
  · obtain ⟨a, ns, t, m, rfl, _⟩ := h
    rfl
  · obtain ⟨a, ns, t, m, rfl, hS, hl, ht, hm, q⟩ := h
    refine ⟨_, (pss_cons (ps_set (i := 3) sc_law_draws.nd rfl (Or.inl rfl) (pe_op op_cat (pe_slice sl_list (pv 0) po_none (po_some pe_int)) (pe_lst (pa_cons (pv 1) pa_nil))))
  (pss_cons (ps_set (i := 4) sc_law_draws.nd rfl (Or.inl rfl) (pe_lst pa_nil))
  (pss_cons (ps_if (pt_cmpR op_eq (pe_op op_mod (pe_op op_fdiv (pe_ix ix_list (pv 3) pe_int (fun _ _ => rfl)) pe_int) pe_int) pe_int (nomark _))
   (pss_cons (ps_setLc (i := 6) (own := [("_law_cell", 10)]) (by rfl) sc_law_draws.nd rfl rfl (sw_true rfl rfl rfl (by decide +kernel)) (pi_list (pv 3)) (blkOk_by (own := [("_law_cell", 10)]) (N := N_law_draws) (sc := defScope s_law_draws) (by decide +kernel)) (fun _ _ _ _ _ => (pg_name (i := 10) sc_law_draws.nd rfl (Or.inl rfl))) (fun _ _ _ _ _ => pts_nil) (fun _ _ _ _ _ => (pe_op op_fdiv (pv 10) pe_int)))
  (pss_cons (ps_for PassesOwn.never rfl (pi_range1 (by rfl) M.range (pa_cons (pe_op op_add (pv 1) (pv 2)) pa_nil)) (pg_name (i := 5) sc_law_draws.nd rfl (Or.inl rfl))
   (pss_cons (ps_set (i := 9) sc_law_draws.nd rfl (Or.inl rfl) (pe_op op_mod (pv 5) (pe_callB call_len_seq (by rfl) M.len (by decide +kernel) (pa_cons (pv 6) pa_nil))))
  (pss_cons (ps_if (pt_cmpR op_ge (pv 5) (pv 1) (nomark _))
   (pss_one (ps_expr (pe_bm PySem.F.plainAttrs_list PySem.F.slot_list_append PySem.F.type_list_append mt_append (pv 4) (pa_cons (pe_op op_mod (pe_ix ix_list (pv 6) (pv 9) (fun _ _ => rfl)) pe_int) pa_nil))))
   pss_nil)
  (pss_one (ps_asg (pe_op op_fdivW (pe_ix ix_list (pv 6) (pv 9) (fun _ _ => rfl)) pe_int) (pg_sub (pv 6) (pv 9) set_list))))))
  (pss_one (ps_ret (pv 4)))))
   pss_nil)
  (pss_cons (ps_for PassesOwn.never rfl (pi_range1 (by rfl) M.range (pa_cons (pv 2) pa_nil)) (pg_name (i := 5) sc_law_draws.nd rfl (Or.inl rfl))
   (pss_cons (ps_set (i := 7) sc_law_draws.nd rfl (Or.inl rfl) (pe_op op_add (pe_op op_mul (pe_op op_mul (pe_op op_add (pv 5) (pv 1)) (pe_op op_add (pv 5) (pv 1))) pe_int) pe_int))
  (pss_cons (ps_set (i := 8) sc_law_draws.nd rfl (Or.inl rfl) (pe_op op_mod (pe_op op_mul (pe_op op_add (pe_op op_mod (pe_ix ix_list (pv 3) (pe_op op_mod (pv 5) (pe_callB call_len_seq (by rfl) M.len (by decide +kernel) (pa_cons (pv 3) pa_nil))) (fun _ _ => rfl)) pe_int) (pv 7)) pe_int) pe_int))
  (pss_cons (ps_set (i := 8) sc_law_draws.nd rfl (Or.inl rfl) (pe_op op_mod (pe_op op_add (pe_op op_mul (pv 8) (pv 8)) (pe_op op_mul pe_int (pv 5))) pe_int))
  (pss_one (ps_expr (pe_bm PySem.F.plainAttrs_list PySem.F.slot_list_append PySem.F.type_list_append mt_append (pv 4) (pa_cons (pe_op op_mod (pe_op op_mul (pv 8) (pv 8)) pe_int) pa_nil))))))))
  (pss_one (ps_ret (pv 4))))))), ?_⟩
    refine ⟨.ref a, rfl, 63, rfl, a, ns.map V.int, rfl, hS, fun c nc => ?_⟩
    refine ⟨.int t, rfl, by show 1 ≤ sizeLine; decide, fun u nu => ?_⟩
    have hcu : c ≠ u := ne_of_none upd_same nu
    have hc : (upd (upd H c (.lst (cutV (ns.map V.int) none (some 63)))) u (.lst [.int (t : Int)])) c = some (.lst (cutV (ns.map V.int) none (some 63))) := by
      rw [upd_ne hcu]
      exact upd_same
    have hlen := cutV_length (ns.map V.int) none (some 63)
    rw [List.length_map] at hlen
    refine ⟨c, u, _, _, rfl, rfl, hc, upd_same, szL (by rw [show ([V.int (t : Int)] : List V).length = 1 from rfl]; omega), fun e ne => ?_⟩
    obtain ⟨cs, ecs, hcs1, hcs2⟩ : ∃ cs : List Int, cutV (ns.map V.int) none (some 63) ++ [V.int (t : Int)] = cs.map V.int ∧ 0 < cs.length ∧ cs.length ≤ 2000 := by
      refine ⟨ns.take 63 ++ [(t : Int)], ?_, ?_, ?_⟩
      · rw [show (63 : Int) = ((63 : Nat) : Int) from rfl, cut_to, List.map_append]
        rfl
      · rw [List.length_append]
        exact Nat.succ_pos _
      · rw [List.length_append, List.length_take, List.length_singleton]
        omega
    have s1 : Same H (upd (upd (upd H c (.lst (cutV (ns.map V.int) none (some 63)))) u (.lst [.int (t : Int)])) e (.lst (cutV (ns.map V.int) none (some 63) ++ [.int (t : Int)]))) :=
      ((same_upd nc).trans (same_upd nu)).trans (same_upd ne)
    have he1 : (upd (upd (upd H c (.lst (cutV (ns.map V.int) none (some 63)))) u (.lst [.int (t : Int)])) e (.lst (cutV (ns.map V.int) none (some 63) ++ [.int (t : Int)]))) e = some (LI cs) := by
      rw [upd_same, ecs]
    generalize (upd (upd (upd H c (.lst (cutV (ns.map V.int) none (some 63)))) u (.lst [.int (t : Int)])) e (.lst (cutV (ns.map V.int) none (some 63) ++ [.int (t : Int)]))) = H1 at s1 he1 ⊢
    -- found = []
    refine ⟨Nat.zero_le _, fun o no => ?_⟩
    have hoe : e ≠ o := ne_of_none he1 no
    have s2 : Same H (upd H1 o (.lst [])) := s1.trans (same_upd no)
    have noH : H o = none := s1.free no
    have he2 : (upd H1 o (.lst [])) e = some (LI cs) := by rw [upd_ne hoe]; exact he1
    have ho2 : (upd H1 o (.lst [])) o = some (LI []) := upd_same
    generalize (upd H1 o (.lst [])) = H2 at s2 he2 ho2 ⊢
    -- cells[0] // 50000 % 2 == 1
    refine ⟨.ref e, rfl, e, _, 0, .int cs[0], rfl, rfl, SqL.of he2, atI_nat (j := 0) (getD_ints hcs1), _, _, rfl, rfl, ⟨by decide, by decide⟩, _, _, rfl, rfl, (by show (0 : Int) < _; decide), rfl, _, rfl, ite2 (fun _ => ?_) (fun _ => ?_)⟩
    · -- left = [cell // 100000 for cell in cells]
      refine ⟨.ref e, rfl, e, rfl, ⟨_, SqL.of he2⟩, fun B nB => lc_list (xs := cs.map V.int) (fun i H' => Same H2 H' ∧ ∃ ls : List Int, H' B = some (LI ls) ∧ ls.length = i) ⟨same_upd nB, [], upd_same, rfl⟩ (fun i H' _ hp => SqL.of (hp.1 _ _ he2)) (fun i x H' hx hp => ?_) (fun H3 hp => ?_)⟩
      · obtain ⟨s3, ls, hB, hls⟩ := hp
        obtain ⟨n, hn, rfl⟩ := of_get_ints hx
        have hi : i < cs.length := (List.getElem?_eq_some_iff.mp hn).1
        refine ⟨rfl, _, rfl, _, _, rfl, rfl, ⟨by decide, by decide⟩, _, hB, szL' (by rw [List.length_map]; omega), sm_new s3 nB, ls ++ [n / 100000], ?_, by rw [List.length_append, hls]; rfl⟩
        exact at_app
      · obtain ⟨s3, ls, hB, hls⟩ := hp
        rw [List.length_map] at hls
        have s3' := s2.trans s3
        have ho3 := s3 _ _ ho2
        have noB : o ≠ B := ne_of_none ho2 nB
        have nBH : H B = none := s2.free nB
        -- for k in range(turn + many)
        refine ⟨_, rfl, _, rfl, _, _, rfl, rfl, _, rfl, by omega, by omega, for_range (n := ((t : Int) + (m : Int)).toNat) (fun i σ H' => ∃ y5 y9, σ = [some (.ref a), some (.int t), some (.int m), some (.ref e), some (.ref o), y5, some (.ref B), none, none, y9, none] ∧ Same H H' ∧
          (∃ ds : List Int, H' o = some (LI ds) ∧ ds.length ≤ i) ∧ ∃ ls : List Int, H' B = some (LI ls) ∧ ls.length = cs.length) ⟨none, none, rfl, s3', ⟨[], ho3, Nat.zero_le _⟩, ls, hB, hls⟩ (fun i σ H4 hi hp => ?_) (fun σ H4 hp => ?_)⟩
        · obtain ⟨y5, y9, rfl, s4, ⟨ds, ho4, hds⟩, ls, hB4, hls⟩ := hp
          obtain ⟨j, hj, ej⟩ := mod_at (i := (0 : Int) + (i : Nat)) (n := (ls.map V.int).length) (by rw [List.length_map]; omega)
          rw [List.length_map] at hj
          refine ⟨_, rfl, _, rfl, B, _, rfl, .inl (SqL.of hB4), _, _, rfl, rfl, by rw [List.length_map]; omega, ?_⟩
          refine ⟨_, rfl, _, rfl, _, _, rfl, rfl, _, rfl, ite2 (fun _ => ?_) (fun _ => ?_)⟩
          · refine ⟨_, rfl, .inl ⟨rfl, _, SqL.of ho4⟩, _, rfl, _, rfl, B, _, _, _, rfl, rfl, SqL.of hB4, at_of ej (getD_ints hj), _, _, rfl, rfl, (by show (0 : Int) < _; decide), o, _, _, rfl, rfl, ho4, szL' (by rw [List.length_map]; omega), ?_⟩
            have hB5 : upd H4 o (.lst (ds.map V.int ++ [V.int (ls[j] % 2147483587)])) B = some (LI ls) := by rw [upd_ne noB.symm]; exact hB4
            refine ⟨_, rfl, _, rfl, B, _, _, _, rfl, rfl, SqL.of hB5, at_of ej (getD_ints hj), _, _, rfl, rfl, wide_div (b := 32) (by decide) (by decide) (by decide) (by decide), _, rfl, _, rfl, B, _, _, j, rfl, rfl, hB5, by rw [ej, List.length_map]; exact ixN_nat hj, ?_⟩
            refine ⟨_, _, rfl, sm_new (sm_new s4 noH) nBH, ⟨ds ++ [ls[j] % 2147483587], ?_, by rw [List.length_append, List.length_singleton]; omega⟩, ls.set j (ls[j] / 2147483587), ?_, by rw [List.length_set]; exact hls⟩
            · rw [upd_ne noB]
              exact at_app
            · exact at_set
          · refine ⟨_, rfl, _, rfl, B, _, _, _, rfl, rfl, SqL.of hB4, at_of ej (getD_ints hj), _, _, rfl, rfl, wide_div (b := 32) (by decide) (by decide) (by decide) (by decide), _, rfl, _, rfl, B, _, _, j, rfl, rfl, hB4, by rw [ej, List.length_map]; exact ixN_nat hj, ?_⟩
            refine ⟨_, _, rfl, sm_new s4 nBH, ⟨ds, ?_, by omega⟩, ls.set j (ls[j] / 2147483587), ?_, by rw [List.length_set]; exact hls⟩
            · rw [upd_ne noB]
              exact ho4
            · exact at_set
        · obtain ⟨y5, y9, rfl, s4, ⟨ds, ho4, hds⟩, _⟩ := hp
          exact ⟨_, rfl, q H4 o ds s4 noH ho4⟩
    · -- for k in range(many)
      refine ⟨_, rfl, _, rfl, by omega, by omega, for_range (n := (m : Int).toNat) (fun i σ H' => ∃ y5 y7 y8, σ = [some (.ref a), some (.int t), some (.int m), some (.ref e), some (.ref o), y5, none, y7, y8, none, none] ∧ Same H H' ∧ H' e = some (LI cs) ∧
        (∃ ds : List Int, H' o = some (LI ds) ∧ ds.length ≤ i)) ⟨none, none, none, rfl, s2, he2, [], ho2, Nat.zero_le _⟩ (fun i σ H4 hi hp => ?_) (fun σ H4 hp => ?_)⟩
      · obtain ⟨y5, y7, y8, rfl, s4, he4, ds, ho4, hds⟩ := hp
        have hi2 : i < m := by omega
        obtain ⟨j, hj, ej⟩ := mod_at (i := (0 : Int) + (i : Nat)) (n := (cs.map V.int).length) (by rw [List.length_map]; omega)
        rw [List.length_map] at hj
        -- place
        refine ⟨_, rfl, _, rfl, _, _, rfl, rfl, _, rfl, _, rfl, _, _, rfl, rfl, _, _, rfl, rfl, .inl ⟨by omega, by omega⟩, _, _, rfl, rfl, .inr ⟨by decide, by decide⟩, _, _, rfl, rfl, ?_⟩
        -- number
        refine ⟨_, rfl, _, rfl, _, rfl, e, _, rfl, .inl (SqL.of he4), _, _, rfl, rfl, by rw [List.length_map]; omega, e, _, _, _, rfl, rfl, SqL.of he4, at_of ej (getD_ints hj), _, _, rfl, rfl, (by show (0 : Int) < _; decide), _, rfl, _, _, rfl, rfl, _, _, rfl, rfl, .inr ⟨by decide, by decide⟩, _, _, rfl, rfl, (by show (0 : Int) < _; decide), ?_⟩
        have mb : ∀ z : Int, -(2 ^ 64) < z % 2147483647 ∧ z % 2147483647 < 2 ^ 64 := fun z => by omega
        have mb2 : ∀ z : Int, -(2 ^ 64) < z % 2147483629 ∧ z % 2147483629 < 2 ^ 64 := fun z => by omega
        refine ⟨_, rfl, _, rfl, _, _, rfl, rfl, .inl (mb _), _, rfl, _, _, rfl, rfl, .inl ⟨by decide, by decide⟩, _, _, rfl, rfl, _, _, rfl, rfl, (by show (0 : Int) < _; decide), ?_⟩
        refine ⟨_, rfl, .inl ⟨rfl, _, SqL.of ho4⟩, _, rfl, _, rfl, _, _, rfl, rfl, .inl (mb2 _), _, _, rfl, rfl, (by show (0 : Int) < _; decide), o, _, _, rfl, rfl, ho4, szL' (by rw [List.length_map]; omega), ?_⟩
        refine ⟨_, _, _, rfl, sm_new s4 noH, ?_, _, at_app, by rw [List.length_append, List.length_singleton]; omega⟩
        rw [upd_ne hoe]
        exact he4
      · obtain ⟨y5, y7, y8, rfl, s4, _, ds, ho4, hds⟩ := hp
        exact ⟨_, rfl, q H4 o ds s4 noH ho4⟩
end
/-! ### _law_want -/
abbrev s_law_want : Stmt := topS 9
abbrev N_law_want : List Str := ["_law_draws_here", "_law_many", "_law_number", "_law_found", "_law_k"]
theorem sc_law_want : FnScope N_law_want ["_law_draws_here", "_law_many"] (defScope s_law_want) := ⟨rfl, rfl, rfl, by decide +kernel, rfl, by decide +kernel, by decide +kernel⟩

theorem menu8 {j : Nat} (h : j < 8) : ∃ v : Int, ([V.int 0, V.int 1, V.int 2, V.int 9, V.int 4, V.int 5, V.int 3, V.int 1] : List V)[j]? = some (.int v) ∧ 0 ≤ v ∧ v ≤ 9 :=
  match j, h with
  | 0, _ => ⟨0, rfl, by decide, by decide⟩
  | 1, _ => ⟨1, rfl, by decide, by decide⟩
  | 2, _ => ⟨2, rfl, by decide, by decide⟩
  | 3, _ => ⟨9, rfl, by decide, by decide⟩
  | 4, _ => ⟨4, rfl, by decide, by decide⟩
  | 5, _ => ⟨5, rfl, by decide, by decide⟩
  | 6, _ => ⟨3, rfl, by decide, by decide⟩
  | 7, _ => ⟨1, rfl, by decide, by decide⟩
theorem shl_ok {i : Nat} (h : i < 4) : (0 : Int) < 1 * 2 ^ (3 * (0 + (i : Int))).toNat ∧ (1 : Int) * 2 ^ (3 * (0 + (i : Int))).toNat < 1073741824 :=
  match i, h with
  | 0, _ => by decide
  | 1, _ => by decide
  | 2, _ => by decide
  | 3, _ => by decide
theorem first_at : ∀ {l : List Int} {x : Int}, x ∈ l → ∃ j : Nat, l[j]? = some x ∧ ∀ (m : Nat) y, m < j → l[m]? = some y → y ≠ x
  | a :: r, x, h => by
    by_cases e : a = x
    · subst e
      exact ⟨0, rfl, fun m y hm => absurd hm (Nat.not_lt_zero _)⟩
    · obtain ⟨j, h1, h2⟩ := first_at (l := r) ((List.mem_cons.mp h).resolve_left fun z => e z.symm)
      refine ⟨j + 1, h1, fun m y hm hy => ?_⟩
      cases m with
      | zero =>
        have : a = y := Option.some.inj hy
        rw [← this]
        exact e
      | succ m => exact h2 m y (by omega) hy
theorem casesM_zero : ∀ (ws : List Int) (p : Int), (∀ w ∈ ws, w = 0) → ws.foldl (fun p w => p * (w + 1)) p = p
  | [], _, _ => rfl
  | a :: r, p, h => by
    have e : a = 0 := h a List.mem_cons_self
    subst e
    show r.foldl (fun p w => p * (w + 1)) (p * (0 + 1)) = p
    rw [casesM_zero r _ fun w hw => h w (List.mem_cons_of_mem _ hw)]
    omega
theorem sum_nonneg : ∀ {ws : List Int}, (∀ w ∈ ws, 0 ≤ w) → 0 ≤ ws.sum
  | [], _ => by decide
  | a :: r, h => by
    have h1 := h a List.mem_cons_self
    have h2 := sum_nonneg (ws := r) fun w hw => h w (List.mem_cons_of_mem _ hw)
    rw [List.sum_cons]
    omega
theorem sum_get : ∀ {ws : List Int} {j : Nat} {x : Int}, (∀ w ∈ ws, 0 ≤ w) → ws[j]? = some x → x ≤ ws.sum
  | [], j, x, _, h => by simp at h
  | a :: r, 0, x, hh, h => by
    have e : a = x := Option.some.inj h
    have := sum_nonneg (ws := r) fun w hw => hh w (List.mem_cons_of_mem _ hw)
    rw [List.sum_cons]
    omega
  | a :: r, j + 1, x, hh, h => by
    have h1 := hh a List.mem_cons_self
    have h2 := sum_get (ws := r) (j := j) (x := x) (fun w hw => hh w (List.mem_cons_of_mem _ hw)) h
    rw [List.sum_cons]
    omega
def Small (ws : List Int) : Prop := ∀ w ∈ ws, 0 ≤ w ∧ w ≤ 9
theorem Small.app {ws : List Int} {n : Int} (h : Small ws) (h1 : 0 ≤ n) (h2 : n ≤ 9) : Small (ws ++ [n]) := fun w hw => by
  rcases List.mem_append.mp hw with z | z
  · exact h w z
  · rw [List.mem_singleton.mp z]
    exact ⟨h1, h2⟩
theorem Small.big {ws : List Int} (h : Small ws) : ∀ w ∈ ws, -1000000 ≤ w ∧ w ≤ 1000000 := fun w hw => by
  have := h w hw
  omega
def sp_want : Sp := fun vs H Q _ => ∃ (a : Addr) (ns : List Int) (m : Nat), vs = [.ref a, .int m] ∧ H a = some (LI ns) ∧ 1 ≤ m ∧ m ≤ 4 ∧
  ∀ H' p ws ns', SameBut a H H' → H p = none → p ≠ a → H' p = some (LI ws) → H' a = some (LI ns') → ws.length = m → Small ws → casesM ws ≤ 400 → Q (.ref p) H'
section
variable {P : Program} {w : World} {K : PySem.W.Frag} {mg : Str → Option Value} {base : Heap}
theorem ok_want {f fp fc : Addr} {fd fdp fdc : FuncData} {k : Nat} (M : Names mg) (D : Def K mg "_law_want" s_law_want ["_law_draws_here", "_law_many"] f fd) (D_law_pop : Def K mg "_law_pop" s_law_pop ["_law_draws_here"] fp fdp) (D_law_cases : Def K mg "_law_cases" s_law_cases ["_law_want_here"] fc fdc) :
    FnOk P w K mg base CX0 (k + 2) f fd ["_law_draws_here", "_law_many"] sp_want := by
  have G_law_pop : FnOk P w K mg base CX0 (k + 1) fp fdp ["_law_draws_here"] sp_pop := ok_pop D_law_pop
  have G_law_cases : FnOk P w K mg base CX0 (k + 1) fc fdc ["_law_want_here"] (sp_cases K) := ok_cases D_law_cases
  refine D.F.ok sc_law_want (fun vs H Q E h => ?_) (fun cdv A outer s H vs Q E hr h => ?_)
  · obtain ⟨a, ns, m, rfl, _⟩ := h
    rfl
  · obtain ⟨a, ns, m, rfl, ha, hm1, hm4, q⟩ := h
    refine ⟨_, (pss_cons (ps_set (i := 2) sc_law_want.nd rfl (Or.inr rfl) (pe_call G_law_pop hr (by rfl) D_law_pop.g D_law_pop.F.kp D_law_pop.b .nil pass0 (pa_cons (pv 0) pa_nil)))
  (pss_cons (ps_setLc (i := 3) (own := [("_law_k", 4)]) (by rfl) sc_law_want.nd rfl rfl (sw_true rfl rfl rfl (by decide +kernel)) (pi_range1 (by rfl) M.range (pa_cons (pv 1) pa_nil)) (blkOk_by (own := [("_law_k", 4)]) (N := N_law_want) (sc := defScope s_law_want) (by decide +kernel)) (fun _ _ _ _ _ => (pg_name (i := 4) sc_law_want.nd rfl (Or.inl rfl))) (fun _ _ _ _ _ => pts_nil) (fun _ _ _ _ _ => (pe_ix (ix_listK (K := K) rfl) (pe_lst (pa_cons pe_int (pa_cons pe_int (pa_cons pe_int (pa_cons pe_int (pa_cons pe_int (pa_cons pe_int (pa_cons pe_int (pa_cons pe_int pa_nil))))))))) (pe_op op_mod (pe_op op_fdiv (pv 2) (pe_op op_shl pe_int (pe_op op_mul pe_int (pv 4)))) pe_int) (fun _ _ => rfl))))
  (pss_cons (ps_if (pt_cmpR op_eq (pe_op op_mod (pe_op op_fdiv (pv 2) pe_int) pe_int) pe_int (nomark _))
   (pss_one (ps_setLc (i := 3) (own := [("_law_k", 4)]) (by rfl) sc_law_want.nd rfl rfl (sw_true rfl rfl rfl (by decide +kernel)) (pi_range1 (by rfl) M.range (pa_cons (pv 1) pa_nil)) (blkOk_by (own := [("_law_k", 4)]) (N := N_law_want) (sc := defScope s_law_want) (by decide +kernel)) (fun _ _ _ _ _ => (pg_name (i := 4) sc_law_want.nd rfl (Or.inl rfl))) (fun _ _ _ _ _ => pts_nil) (fun _ _ _ _ _ => (pe_op op_mod (pe_call G_law_pop hr (by rfl) D_law_pop.g D_law_pop.F.kp D_law_pop.b .nil pass0 (pa_cons (pv 0) pa_nil)) pe_int))))
   pss_nil)
  (pss_cons (ps_while PassesOwn.never (pt_cmpR op_gt (pe_call G_law_cases hr (by rfl) D_law_cases.g D_law_cases.F.kp D_law_cases.b .nil pass0 (pa_cons (pv 3) pa_nil)) pe_int (nomark _))
   (pss_one (ps_asg (pe_op op_sub (pe_callB (cr_max rfl) (by rfl) M.max (by decide +kernel) (pa_cons (pv 3) pa_nil)) pe_int) (pg_sub (pv 3) (pe_bm PySem.F.plainAttrs_list PySem.F.slot_list_index PySem.F.type_list_index mt_index (pv 3) (pa_cons (pe_callB (cr_max rfl) (by rfl) M.max (by decide +kernel) (pa_cons (pv 3) pa_nil)) pa_nil)) set_list))))
  (pss_one (ps_ret (pv 3))))))), ?_⟩
    -- number = pop(draws)
    refine ⟨.ref a, rfl, a, ns, rfl, ha, fun H1 s1 h1 => ?_⟩
    generalize ns.headD 0 = n0
    generalize ns.tail = ns1 at h1
    -- the menu
    refine ⟨_, rfl, _, rfl, by omega, by omega, fun B nB => lc_range (lo := 0) (n := (m : Int).toNat) (fun i H' => SameBut a H H' ∧ H' a = some (LI ns1) ∧ ∃ ws, H' B = some (LI ws) ∧ ws.length = i ∧ Small ws) ?_ (fun i H' hi hp => ?_) (fun H2 hp => ?_)⟩
    · have nBa : a ≠ B := ne_of_none h1 nB
      refine ⟨?_, ?_, [], upd_same, rfl, fun w hw => nomatch hw⟩
      · exact s1.new (s1.free nB (by rw [h1]; exact fun z => nomatch z))
      · rw [upd_ne nBa]
        exact h1
    · have nBa : a ≠ B := ne_of_none h1 nB
      have nBH : H B = none := s1.free nB (by rw [h1]; exact fun z => nomatch z)
      obtain ⟨s2, h2, ws, hB, hl, sm⟩ := hp
      have hi4 : i < 4 := by omega
      refine ⟨rfl, by show 8 ≤ sizeLine; decide, fun p np => ?_⟩
      have npB : B ≠ p := ne_of_none hB np
      have npa : a ≠ p := ne_of_none h2 np
      obtain ⟨j, hj, ej⟩ := mod_at (i := n0 / (1 * 2 ^ (3 * (0 + (i : Int))).toNat)) (n := 8) (by decide)
      obtain ⟨v, hv, hv1, hv2⟩ := menu8 hj
      refine ⟨_, rfl, _, rfl, _, _, rfl, rfl, .inl ⟨by decide, by decide⟩, _, _, rfl, rfl, ⟨by omega, by omega, by decide⟩, _, _, rfl, rfl, shl_ok hi4, _, _, rfl, rfl, (by show (0 : Int) < _; decide), p, _, _, _, rfl, rfl, SqL.of upd_same, at_of ej hv, ?_⟩
      have hB2 : (upd H' p (.lst [V.int 0, V.int 1, V.int 2, V.int 9, V.int 4, V.int 5, V.int 3, V.int 1])) B = some (LI ws) := by rw [upd_ne npB]; exact hB
      refine ⟨_, hB2, szL' (by rw [List.length_map]; omega), ?_, ?_, _, at_app, by rw [List.length_append, hl]; rfl, sm.app hv1 hv2⟩
      · exact (s2.new (s2.free np (by rw [h2]; exact fun z => nomatch z))).new nBH
      · rw [upd_ne nBa, upd_ne npa]
        exact h2
    · have nBa : a ≠ B := ne_of_none h1 nB
      have nBH : H B = none := s1.free nB (by rw [h1]; exact fun z => nomatch z)
      obtain ⟨s2, h2, ws, hB, hl, sm⟩ := hp
      -- the end: while and return, from any found list
      have fin : ∀ (L : Addr) (σ : L2.St) (H3 : Hp), σ = [some (.ref a), some (.int m), some (.int n0), some (.ref L), none] → H L = none → a ≠ L → SameBut a H H3 → (∃ ns3, H3 a = some (LI ns3)) → (∃ ws, H3 L = some (LI ws) ∧ ws.length = m ∧ Small ws) →
          ∃ W : Nat → L2.St → Hp → Prop, (∃ μ, W μ σ H3) ∧ ∀ μ σ H4, W μ σ H4 → ∃ ws, W μ σ H4 ∧ σ = [some (.ref a), some (.int m), some (.int n0), some (.ref L), none] ∧ SameBut a H H4 ∧ (∃ ns3, H4 a = some (LI ns3)) ∧ H4 L = some (LI ws) ∧ ws.length = m ∧ Small ws ∧ μ = ws.sum.toNat ∧
            ∀ ws' : List Int, ws'.length = m → Small ws' → ws'.sum < ws.sum → ∃ μ', μ' < μ ∧ W μ' σ (upd H4 L (LI ws')) := by
        intro L σ H3 eσ nL naL s3 h3 h4
        refine ⟨fun μ σ H4 => ∃ ws, σ = [some (.ref a), some (.int m), some (.int n0), some (.ref L), none] ∧ SameBut a H H4 ∧ (∃ ns3, H4 a = some (LI ns3)) ∧ H4 L = some (LI ws) ∧ ws.length = m ∧ Small ws ∧ μ = ws.sum.toNat, ?_, ?_⟩
        · obtain ⟨ws, e1, e2, e3⟩ := h4
          exact ⟨_, ws, eσ, s3, h3, e1, e2, e3, rfl⟩
        · intro μ σ H4 hW
          obtain ⟨ws, e1, e2, ⟨ns3, e3⟩, e4, e5, e6, e7⟩ := id hW
          refine ⟨ws, hW, e1, e2, ⟨ns3, e3⟩, e4, e5, e6, e7, fun ws' l1 l2 l3 => ⟨_, ?_, ws', e1, e2.new nL, ⟨ns3, ?_⟩, upd_same, l1, l2, rfl⟩⟩
          · have p1 : 0 ≤ ws'.sum := sum_nonneg fun w hw => (l2 w hw).1
            omega
          · rw [upd_ne naL]
            exact e3
      have body : ∀ (L : Addr) (H4 : Hp) (ws : List Int), H L = none → a ≠ L → SameBut a H H4 → (∃ ns3, H4 a = some (LI ns3)) → H4 L = some (LI ws) → ws.length = m → Small ws → casesM ws > 400 →
          ∀ mx : Int, mx ∈ ws → (∀ y, y ∈ ws → y ≤ mx) → ∃ j : Nat, ws[j]? = some mx ∧ (∀ (m' : Nat) (z' : V), m' < j → (ws.map V.int)[m']? = some z' → eqV z' (.int mx) = false) ∧ j < ws.length ∧ (ws.set j (mx - 1)).length = m ∧ Small (ws.set j (mx - 1)) ∧ (ws.set j (mx - 1)).sum < ws.sum := by
        intro L H4 ws nL naL s4 h3 h4 hl sm hc mx hmx hle
        obtain ⟨j, h1, h2⟩ := first_at hmx
        have pos : 1 ≤ mx := by
          rcases Int.lt_or_le mx 1 with z | z
          · have e : casesM ws = 1 := casesM_zero ws 1 fun w hw => by
              have a1 := hle w hw
              have a2 := sm w hw
              omega
            omega
          · exact z
        have b := sm mx hmx
        refine ⟨j, h1, fun m' z' hm hz => ?_, (List.getElem?_eq_some_iff.mp h1).1, by rw [List.length_set]; exact hl, fun w hw => ?_, ?_⟩
        · obtain ⟨y, hy, rfl⟩ := of_get_ints hz
          have := h2 m' y hm hy
          show (y == mx) = false
          exact beq_eq_false_iff_ne.mpr this
        · rcases List.mem_or_eq_of_mem_set hw with z | z
          · exact sm w z
          · omega
        · rw [sum_set h1]
          omega
      -- number // 4096 % 4 == 0
      refine ⟨_, rfl, _, _, rfl, rfl, ⟨by decide, by decide⟩, _, _, rfl, rfl, (by show (0 : Int) < _; decide), rfl, _, rfl, ite2 (fun _ => ?_) (fun _ => ?_)⟩
      · refine ⟨_, rfl, _, rfl, by omega, by omega, fun L nL => lc_range (lo := 0) (n := (m : Int).toNat) (fun i H' => SameBut a H H' ∧ (∃ ns3, H' a = some (LI ns3)) ∧ ∃ ws, H' L = some (LI ws) ∧ ws.length = i ∧ Small ws) ?_ (fun i H' hi hp => ?_) (fun H3 hp => ?_)⟩
        · have naL : a ≠ L := ne_of_none h2 nL
          refine ⟨s2.new (s2.free nL (by rw [h2]; exact fun z => nomatch z)), ⟨ns1, ?_⟩, [], upd_same, rfl, fun w hw => nomatch hw⟩
          rw [upd_ne naL]
          exact h2
        · have naL : a ≠ L := ne_of_none h2 nL
          have nLH : H L = none := s2.free nL (by rw [h2]; exact fun z => nomatch z)
          obtain ⟨s3, ⟨ns3, h3⟩, ws, hL, hl, sm⟩ := hp
          refine ⟨rfl, .ref a, rfl, a, ns3, rfl, h3, fun H5 s5 h5 => ⟨_, _, rfl, rfl, (by show (0 : Int) < _; decide), _, s5 L _ naL.symm hL, szL' (by rw [List.length_map]; omega), ?_⟩⟩
          refine ⟨(s3.trans s5).new nLH, ⟨_, by rw [upd_ne naL]; exact h5⟩, _, at_app, by rw [List.length_append, hl]; rfl, sm.app (by omega) (by omega)⟩
        · have naL : a ≠ L := ne_of_none h2 nL
          have nLH : H L = none := s2.free nL (by rw [h2]; exact fun z => nomatch z)
          obtain ⟨s3, h3, ws3, hL, hl3, sm3⟩ := hp
          obtain ⟨W, w0, hW⟩ := fin L _ H3 rfl nLH naL s3 h3 ⟨ws3, hL, hl3, sm3⟩
          refine ⟨W, w0, fun μ σ H4 w4 => ?_⟩
          obtain ⟨ws4, _, rfl, s4, ⟨ns4, h4⟩, hL4, hl4, sm4, eμ, step⟩ := hW μ σ H4 w4
          refine ⟨.ref L, rfl, L, ws4, rfl, SqL.of hL4, sm4.big, _, _, rfl, rfl, _, rfl, ite2 (fun c => ?_) (fun c => ?_)⟩
          · have c2 : casesM ws4 > 400 := of_decide_eq_true c
            refine ⟨fun σ' H' => σ' = [some (.ref a), some (.int m), some (.int n0), some (.ref L), none] ∧ ∃ ws' : List Int, ws'.length = m ∧ Small ws' ∧ ws'.sum < ws4.sum ∧ H' = upd H4 L (LI ws'), fun σ' H' hN => ?_, ?_⟩
            · obtain ⟨rfl, ws', l1, l2, l3, rfl⟩ := hN
              exact step ws' l1 l2 l3
            · refine ⟨_, rfl, L, ws4, rfl, SqL.of hL4, by omega, fun mx hmx hle => ⟨_, _, rfl, rfl, _, rfl, _, rfl, .inl ⟨rfl, _, SqL.of hL4⟩, _, rfl, L, ws4, rfl, SqL.of hL4, by omega, fun mx2 hmx2 hle2 => ?_⟩⟩
              have emx : mx2 = mx := Int.le_antisymm (hle mx2 hmx2) (hle2 mx hmx)
              subst emx
              obtain ⟨j, b1, b2, b3, b4, b5, b6⟩ := body L H4 ws4 nLH naL s4 ⟨ns4, h4⟩ hL4 hl4 sm4 c2 mx2 hmx hle
              refine ⟨L, _, _, j, _, rfl, rfl, SqL.of hL4, rfl, by simp [flatV], get_ints b1, by show (mx2 == mx2) = true; exact beq_self_eq_true _, b2, L, _, _, j, rfl, rfl, hL4, by rw [List.length_map]; exact ixN_nat b3, rfl, _, b4, b5, b6, ?_⟩
              rw [← li_set]
          · exact ⟨_, rfl, q H4 L ws4 ns4 s4 nLH naL.symm hL4 h4 hl4 sm4 (Int.not_lt.mp fun z => c (decide_eq_true z))⟩
      · obtain ⟨W, w0, hW⟩ := fin B _ H2 rfl nBH nBa s2 ⟨ns1, h2⟩ ⟨ws, hB, hl, sm⟩
        refine ⟨W, w0, fun μ σ H4 w4 => ?_⟩
        obtain ⟨ws4, _, rfl, s4, ⟨ns4, h4⟩, hL4, hl4, sm4, eμ, step⟩ := hW μ σ H4 w4
        refine ⟨.ref B, rfl, B, ws4, rfl, SqL.of hL4, sm4.big, _, _, rfl, rfl, _, rfl, ite2 (fun c => ?_) (fun c => ?_)⟩
        · have c2 : casesM ws4 > 400 := of_decide_eq_true c
          refine ⟨fun σ' H' => σ' = [some (.ref a), some (.int m), some (.int n0), some (.ref B), none] ∧ ∃ ws' : List Int, ws'.length = m ∧ Small ws' ∧ ws'.sum < ws4.sum ∧ H' = upd H4 B (LI ws'), fun σ' H' hN => ?_, ?_⟩
          · obtain ⟨rfl, ws', l1, l2, l3, rfl⟩ := hN
            exact step ws' l1 l2 l3
          · refine ⟨_, rfl, B, ws4, rfl, SqL.of hL4, by omega, fun mx hmx hle => ⟨_, _, rfl, rfl, _, rfl, _, rfl, .inl ⟨rfl, _, SqL.of hL4⟩, _, rfl, B, ws4, rfl, SqL.of hL4, by omega, fun mx2 hmx2 hle2 => ?_⟩⟩
            have emx : mx2 = mx := Int.le_antisymm (hle mx2 hmx2) (hle2 mx hmx)
            subst emx
            obtain ⟨j, b1, b2, b3, b4, b5, b6⟩ := body B H4 ws4 nBH nBa s4 ⟨ns4, h4⟩ hL4 hl4 sm4 c2 mx2 hmx hle
            refine ⟨B, _, _, j, _, rfl, rfl, SqL.of hL4, rfl, by simp [flatV], get_ints b1, by show (mx2 == mx2) = true; exact beq_self_eq_true _, b2, B, _, _, j, rfl, rfl, hL4, by rw [List.length_map]; exact ixN_nat b3, rfl, _, b4, b5, b6, ?_⟩
            rw [← li_set]
        · exact ⟨_, rfl, q H4 B ws4 ns4 s4 nBH nBa.symm hL4 h4 hl4 sm4 (Int.not_lt.mp fun z => c (decide_eq_true z))⟩
end
/-! ### _law_whole, _law_numbers -/
abbrev s_law_whole : Stmt := topS 7
abbrev N_law_whole : List Str := ["_law_found"]
theorem sc_law_whole : FnScope N_law_whole ["_law_found"] (defScope s_law_whole) := ⟨rfl, rfl, rfl, by decide +kernel, rfl, by decide +kernel, by decide +kernel⟩

abbrev s_law_numbers : Stmt := topS 8
abbrev N_law_numbers : List Str := ["_law_found", "_law_due", "_law_one"]
theorem sc_law_numbers : FnScope N_law_numbers ["_law_found", "_law_due"] (defScope s_law_numbers) := ⟨rfl, rfl, rfl, by decide +kernel, rfl, by decide +kernel, by decide +kernel⟩

def sp_whole : Sp := fun vs H Q _ => ∃ i : Int, vs = [.int i] ∧ Q (.bl true) H
def sp_numbers (K : PySem.W.Frag) : Sp := fun vs H Q _ => ∃ (a b : Addr) (ns : List Int), vs = [.ref a, .ref b] ∧ H a = some (LI ns) ∧ SqL K H b (ns.map V.int) ∧ ∀ H', Same H H' → Q (.bl true) H'
section
variable {P : Program} {w : World} {K : PySem.W.Frag} {mg : Str → Option Value} {base : Heap}
theorem ok_whole {f : Addr} {fd : FuncData} {k : Nat} (M : Names mg) (D : Def K mg "_law_whole" s_law_whole ["_law_found"] f fd) : FnOk P w K mg base CX0 (k + 1) f fd ["_law_found"] sp_whole := by
  refine D.F.ok sc_law_whole (fun vs H Q E h => ?_) (fun cdv A outer s H vs Q E hr h => ?_)
  · obtain ⟨i, rfl, _⟩ := h
    rfl
  · obtain ⟨i, rfl, q⟩ := h
    refine ⟨_, (pss_one (ps_ret (pe_and (pe_callB call_isi (by rfl) M.isinstance (by decide +kernel) (pa_cons (pv 0) (pa_cons (pe_bltn (v := .ty "int") (by rfl) M.int (by decide +kernel) rfl) pa_nil))) (pe_one (pe_not (pe_callB call_isi (by rfl) M.isinstance (by decide +kernel) (pa_cons (pv 0) (pa_cons (pe_bltn (v := .ty "bool") (by rfl) M.bool (by decide +kernel) rfl) pa_nil)))))))), ?_⟩
    refine ⟨_, rfl, _, _, _, _, true, rfl, .ty "int", .base (.int _), kit_ty (by decide +kernel), true, rfl, ?_⟩
    refine ⟨_, rfl, _, _, _, _, false, rfl, .ty "bool", .base (.int _), kit_ty (by decide +kernel), false, rfl, ?_⟩
    exact q
theorem ok_numbers {f fw : Addr} {fd fdw : FuncData} {k : Nat} (M : Names mg) (D : Def K mg "_law_numbers" s_law_numbers ["_law_found", "_law_due"] f fd) (D_law_whole : Def K mg "_law_whole" s_law_whole ["_law_found"] fw fdw) :
    FnOk P w K mg base CX0 (k + 2) f fd ["_law_found", "_law_due"] (sp_numbers K) := by
  have G_law_whole : FnOk P w K mg base CX0 (k + 1) fw fdw ["_law_found"] sp_whole := ok_whole M D_law_whole
  refine D.F.ok sc_law_numbers (fun vs H Q E h => ?_) (fun cdv A outer s H vs Q E hr h => ?_)
  · obtain ⟨a, b, ns, rfl, _⟩ := h
    rfl
  · obtain ⟨a, b, ns, rfl, ha, hb, q⟩ := h
    refine ⟨_, (pss_cons (ps_if (PW.pt (pw_or (pt_not (pt_val (pe_callB call_isi (by rfl) M.isinstance (by decide +kernel) (pa_cons (pv 0) (pa_cons (pe_bltn (v := .ty "list") (by rfl) M.list (by decide +kernel) rfl) pa_nil))))) (pw_or1 (pt_cmpR op_gt (pe_callB call_len_seq (by rfl) M.len (by decide +kernel) (pa_cons (pe_lc (own := [("_law_one", 2)]) (by rfl) sc_law_numbers.nd (pi_list (pv 0)) (blkOk_by (own := [("_law_one", 2)]) (N := N_law_numbers) (sc := defScope s_law_numbers) (by decide +kernel)) (fun _ _ _ _ _ => (pg_name (i := 2) sc_law_numbers.nd rfl (Or.inl rfl))) (fun _ _ _ _ _ => (pts_one (pt_not (pt_val (pe_call G_law_whole hr (by rfl) D_law_whole.g D_law_whole.F.kp D_law_whole.b .nil pass0 (pa_cons (pv 2) pa_nil)))))) (fun _ _ _ _ _ => (pv 2))) pa_nil)) pe_int (nomark _)))))
   (pss_one (ps_ret pe_bl))
   pss_nil)
  (pss_one (ps_ret (pe_cmpR (op_eqD hr.units) (pv 0) (pv 1) (nomark _))))), ?_⟩
    refine ⟨_, rfl, _, _, _, _, true, rfl, .ty "list", .base (.lst ha), kit_ty (by decide +kernel), true, rfl, ?_⟩
    refine ⟨_, rfl, a, rfl, ⟨_, SqL.of ha⟩, fun B nB => lc_list (xs := ns.map V.int) (fun i H' => Same H H' ∧ H' B = some (.lst [])) ⟨same_upd nB, upd_same⟩ (fun i H' _ hp => SqL.of (hp.1 _ _ ha)) (fun i x H' hx hp => ?_) (fun H1 hp => ?_)⟩
    · obtain ⟨n, hn, rfl⟩ := of_get_ints hx
      exact ⟨rfl, _, rfl, n, rfl, true, rfl, hp⟩
    · obtain ⟨s1, h1⟩ := hp
      refine ⟨B, _, rfl, .inl (SqL.of h1), _, _, rfl, rfl, _, rfl, ?_⟩
      refine ⟨_, rfl, _, rfl, _, _, dp_ints (SqL.of (s1 _ _ ha)), dp_ints (s1.seq hb), shaped_ints _, shaped_ints _, ?_⟩
      rw [eqv_ints, decide_eq_true rfl]
      exact q _ s1
end
/-! ### tables through calls -/
theorem tabG_same {H H' : Hp} {T : Addr} (s : Same H H') (h : GxR.TabG H T) : GxR.TabG H' T := by
  obtain ⟨ps, h1, h2⟩ := h
  exact ⟨ps, s _ _ h1, h2⟩
theorem tabG_but {H H' : Hp} {T d : Addr} {xs : List V} (s : SameBut d H H') (hd : H d = some (.lst xs)) (h : GxR.TabG H T) : GxR.TabG H' T := by
  obtain ⟨ps, h1, h2⟩ := h
  exact ⟨ps, s _ _ (ne_of h1 hd (fun z => nomatch z)) h1, h2⟩
theorem tabbed_lst {H H' : Hp} {T a : Addr} {xs : List V} (t : GxR.Tabbed T H H') (hT : GxR.TabG H T) (h : H a = some (.lst xs)) : H' a = some (.lst xs) := by
  obtain ⟨ps, h1, h2⟩ := hT
  rw [t.2 a (ne_of h h1 (fun z => nomatch z))]
  exact h
theorem draw4 (x : Int) : ∃ m : Nat, 1 ≤ m ∧ m ≤ 4 ∧ 1 + x % 4 = (m : Int) := ⟨(1 + x % 4).toNat, by omega, by omega, by omega⟩
/-! ### the law -/
abbrev s_law : Stmt := topS 11
abbrev N_law : List Str := ["_law_script", "_law_draws_here", "_law_turn", "_law_many", "_law_want_here", "_law_content", "_law_handed", "_law_over", "_law_found", "_law_due", "_law_again", "_law_told", "_law_k", "_law_number"]
theorem sc_law : FnScope N_law ["_law_script"] (defScope s_law) := ⟨rfl, rfl, rfl, by decide +kernel, rfl, by decide +kernel, by decide +kernel⟩

theorem menu2 {j : Nat} (h : j < 2) : ∃ v : Int, ([V.int 112, V.int 9991] : List V)[j]? = some (.int v) ∧ 0 < v :=
  match j, h with
  | 0, _ => ⟨112, rfl, by decide⟩
  | 1, _ => ⟨9991, rfl, by decide⟩
def overM (ws cs : List Int) : List Int := (List.range ws.length).map fun i => ws.getD i 0 - hadM cs i
theorem overM_len (ws cs : List Int) : (overM ws cs).length = ws.length := by
  unfold overM
  rw [List.length_map, List.length_range]
theorem overM_get {ws cs : List Int} {i : Nat} {n c : Int} (h : ws[i]? = some n) (hc : cs[i]? = some c) : (overM ws cs)[i]? = some (n - c) := by
  have hi : i < ws.length := (List.getElem?_eq_some_iff.mp h).1
  unfold overM
  rw [List.getElem?_map, List.getElem?_range hi]
  show some (ws.getD i 0 - hadM cs i) = _
  rw [show ws.getD i 0 = n by rw [List.getD_eq_getElem?_getD, h]; rfl]
  rw [show hadM cs i = c by unfold hadM; rw [List.getD_eq_getElem?_getD, hc]; rfl]
def dueM (os : List Int) : List Int := os.map fun n => if n > 0 then n else 0
theorem due_rest (ws cs : List Int) : dueM (overM ws cs) = restM ws cs := by
  unfold dueM overM restM
  rw [List.map_map]
  rfl
theorem covers_over {ws cs : List Int} {mx : Int} (h1 : mx ∈ overM ws cs) (h2 : ∀ y, y ∈ overM ws cs → y ≤ mx) : coversM cs ws = decide (mx ≤ 0) := by
  unfold coversM
  rw [Bool.eq_iff_iff, List.all_eq_true, decide_eq_true_eq]
  unfold overM at h1 h2
  constructor
  · intro h
    obtain ⟨i, hi, rfl⟩ := List.mem_map.mp h1
    have := of_decide_eq_true (h i hi)
    omega
  · intro h i hi
    have := h2 _ (List.mem_map.mpr ⟨i, hi, rfl⟩)
    exact decide_eq_true (by omega)
def sp_law (K : PySem.W.Frag) (T : Addr) : Sp := fun vs H Q _ => ∃ (a : Addr) (ns : List Int), vs = [.ref a] ∧ SqL K H a (ns.map V.int) ∧ ns.length ≤ 63 ∧ GxR.TabG H T ∧ ∀ H', Q (.bl true) H'
section
variable {P : Program} {w : World} {K : PySem.W.Frag} {mg : Str → Option Value} {base : Heap}
theorem ok_law {f f1 f2 f3 f4 f5 f6 f7 f8 f9 c T : Addr} {fd fd1 fd2 fd3 fd4 fd5 fd6 fd7 fd8 fd9 : FuncData} (M : Names mg) (D : Def K mg "law" s_law ["_law_script"] f fd)
    (D_had : Def K mg "had" s_had ["content", "thing"] f1 fd1) (D_covers : Def K mg "covers" s_covers ["content", "want"] f2 fd2) (D_rest : Def K mg "rest" s_rest ["want", "content"] f3 fd3)
    (D_law_draws : Def K mg "_law_draws" s_law_draws ["_law_script", "_law_turn", "_law_many"] f4 fd4) (D_law_pop : Def K mg "_law_pop" s_law_pop ["_law_draws_here"] f5 fd5)
    (D_law_whole : Def K mg "_law_whole" s_law_whole ["_law_found"] f6 fd6) (D_law_numbers : Def K mg "_law_numbers" s_law_numbers ["_law_found", "_law_due"] f7 fd7) (D_law_want : Def K mg "_law_want" s_law_want ["_law_draws_here", "_law_many"] f8 fd8)
    (D_law_cases : Def K mg "_law_cases" s_law_cases ["_law_want_here"] f9 fd9) (hc : fd2.code = .ref c) (TB : GxR.TabB base mg c T) :
    FnOk P w K mg base CX0 3 f fd ["_law_script"] (sp_law K T) := by
  have G_covers : FnOk P w K mg base CX0 2 f2 fd2 ["content", "want"] (sp_covers K T) := ok_covers M D_covers hc TB D_had
  have G_rest : FnOk P w K mg base CX0 2 f3 fd3 ["want", "content"] (sp_rest K) := ok_rest M D_rest D_had
  have G_law_draws : FnOk P w K mg base CX0 2 f4 fd4 ["_law_script", "_law_turn", "_law_many"] (sp_draws K) := ok_draws M D_law_draws
  have G_law_pop : FnOk P w K mg base CX0 2 f5 fd5 ["_law_draws_here"] sp_pop := ok_pop D_law_pop
  have G_law_numbers : FnOk P w K mg base CX0 2 f7 fd7 ["_law_found", "_law_due"] (sp_numbers K) := ok_numbers M D_law_numbers D_law_whole
  have G_law_want : FnOk P w K mg base CX0 2 f8 fd8 ["_law_draws_here", "_law_many"] sp_want := ok_want M D_law_want D_law_pop D_law_cases
  refine D.F.ok sc_law (fun vs H Q E h => ?_) (fun cdv A outer s H vs Q E hr h => ?_)
  · obtain ⟨a, ns, rfl, _⟩ := h
    rfl
  · obtain ⟨a, ns, rfl, hS, hlen, hT, q⟩ := h
    refine ⟨_, (pss_cons (ps_set (i := 1) sc_law.nd rfl (Or.inr rfl) (pe_call G_law_draws hr (by rfl) D_law_draws.g D_law_draws.F.kp D_law_draws.b .nil pass0 (pa_cons (pv 0) (pa_cons pe_int (pa_cons pe_int pa_nil)))))
  (pss_cons (ps_for PassesOwn.never rfl (pi_range1 (by rfl) M.range (pa_cons pe_int pa_nil)) (pg_name (i := 2) sc_law.nd rfl (Or.inr rfl))
   (pss_cons (ps_set (i := 3) sc_law.nd rfl (Or.inl rfl) (pe_op op_add pe_int (pe_op op_mod (pe_call G_law_pop hr (by rfl) D_law_pop.g D_law_pop.F.kp D_law_pop.b .nil pass0 (pa_cons (pv 1) pa_nil)) pe_int)))
  (pss_cons (ps_set (i := 4) sc_law.nd rfl (Or.inr rfl) (pe_call G_law_want hr (by rfl) D_law_want.g D_law_want.F.kp D_law_want.b .nil pass0 (pa_cons (pv 1) (pa_cons (pv 3) pa_nil))))
  (pss_cons (ps_set (i := 5) sc_law.nd rfl (Or.inr rfl) (pe_call G_law_want hr (by rfl) D_law_want.g D_law_want.F.kp D_law_want.b .nil pass0 (pa_cons (pv 1) (pa_cons (pv 3) pa_nil))))
  (pss_cutI (ps_if (pt_cmpR op_eq (pe_op op_mod (pe_call G_law_pop hr (by rfl) D_law_pop.g D_law_pop.F.kp D_law_pop.b .nil pass0 (pa_cons (pv 1) pa_nil)) pe_int) pe_int (nomark _))
   (pss_one (ps_set (i := 5) sc_law.nd rfl (Or.inr rfl) (pe_lc (own := [("_law_number", 13)]) (by rfl) sc_law.nd (pi_list (pv 5)) (blkOk_by (own := [("_law_number", 13)]) (N := N_law) (sc := defScope s_law) (by decide +kernel)) (fun _ _ _ _ _ => (pg_name (i := 13) sc_law.nd rfl (Or.inl rfl))) (fun _ _ _ _ _ => pts_nil) (fun _ _ _ _ _ => (pe_op op_add (pv 13) (pe_op op_mod (pe_call G_law_pop hr (by rfl) D_law_pop.g D_law_pop.F.kp D_law_pop.b .nil pass0 (pa_cons (pv 1) pa_nil)) (pe_ix (ix_listK (K := K) rfl) (pe_lst (pa_cons pe_int (pa_cons pe_int pa_nil))) (pe_op op_mod (pv 2) pe_int) (fun _ _ => rfl))))))))
   pss_nil)
  (pss_cons (ps_set (i := 6) sc_law.nd rfl (Or.inl rfl) (pe_lst (pa_cons (pe_callTy call_list_of (by rfl) M.list (by decide +kernel) (pa_cons (pv 4) pa_nil)) (pa_cons (pe_callTy call_list_of (by rfl) M.list (by decide +kernel) (pa_cons (pv 5) pa_nil)) pa_nil))))
  (pss_cons (ps_setLc (i := 7) (own := [("_law_k", 12)]) (by rfl) sc_law.nd rfl rfl (sw_true rfl rfl rfl (by decide +kernel)) (pi_range1 (by rfl) M.range (pa_cons (pv 3) pa_nil)) (blkOk_by (own := [("_law_k", 12)]) (N := N_law) (sc := defScope s_law) (by decide +kernel)) (fun _ _ _ _ _ => (pg_name (i := 12) sc_law.nd rfl (Or.inl rfl))) (fun _ _ _ _ _ => pts_nil) (fun _ _ _ _ _ => (pe_op op_sub (pe_ix (ix_listK (K := K) rfl) (pv 4) (pv 12) (fun _ _ => rfl)) (pe_ix (ix_listK (K := K) rfl) (pv 5) (pv 12) (fun _ _ => rfl)))))
  (pss_cons (ps_set (i := 8) sc_law.nd rfl (Or.inl rfl) (pe_call G_covers hr (by rfl) D_covers.g D_covers.F.kp D_covers.b .nil pass0 (pa_cons (pe_ix ix_list (pv 6) pe_int (fun _ _ => rfl)) (pa_cons (pe_ix ix_list (pv 6) pe_int (fun _ _ => rfl)) pa_nil))))
  (pss_cons (ps_if (PW.pt (pw_or (pt_not (pt_val (pe_callB call_isi (by rfl) M.isinstance (by decide +kernel) (pa_cons (pv 8) (pa_cons (pe_bltn (v := .ty "bool") (by rfl) M.bool (by decide +kernel) rfl) pa_nil))))) (pw_or1 (pt_cmpR op_ne (pv 8) (pe_cmpR op_le (pe_callB (cr_max rfl) (by rfl) M.max (by decide +kernel) (pa_cons (pv 7) pa_nil)) pe_int (nomark _)) (nomark _)))))
   (pss_one (ps_ret pe_bl))
   pss_nil)
  (pss_cons (ps_setLc (i := 9) (own := [("_law_number", 13)]) (by rfl) sc_law.nd rfl rfl (sw_true rfl rfl rfl (by decide +kernel)) (pi_list (pv 7)) (blkOk_by (own := [("_law_number", 13)]) (N := N_law) (sc := defScope s_law) (by decide +kernel)) (fun _ _ _ _ _ => (pg_name (i := 13) sc_law.nd rfl (Or.inl rfl))) (fun _ _ _ _ _ => pts_nil) (fun _ _ _ _ _ => (pe_callB (call_max2 rfl) (by rfl) M.max (by decide +kernel) (pa_cons pe_int (pa_cons (pv 13) pa_nil)))))
  (pss_one (ps_for PassesOwn.never rfl (pi_range1 (by rfl) M.range (pa_cons pe_int pa_nil)) (pg_name (i := 10) sc_law.nd rfl (Or.inl rfl))
   (pss_cons (ps_set (i := 11) sc_law.nd rfl (Or.inl rfl) (pe_call G_rest hr (by rfl) D_rest.g D_rest.F.kp D_rest.b .nil pass0 (pa_cons (pe_ix ix_list (pv 6) pe_int (fun _ _ => rfl)) (pa_cons (pe_ix ix_list (pv 6) pe_int (fun _ _ => rfl)) pa_nil))))
  (pss_cons (ps_if (PW.pt (pw_or (pt_not (pt_val (pe_call G_law_numbers hr (by rfl) D_law_numbers.g D_law_numbers.F.kp D_law_numbers.b .nil pass0 (pa_cons (pv 11) (pa_cons (pv 9) pa_nil))))) (pw_or1 (pt_cmpR (op_neD hr.units) (pv 6) (pe_lst (pa_cons (pv 4) (pa_cons (pv 5) pa_nil))) (nomark _)))))
   (pss_one (ps_ret pe_bl))
   pss_nil)
  (pss_one (ps_expr (pe_bm PySem.F.plainAttrs_list PySem.F.slot_list_append PySem.F.type_list_append mt_append (pv 11) (pa_cons pe_int pa_nil))))))))))))))))))
  (pss_one (ps_ret pe_bl)))), ?_⟩
    refine ⟨_, rfl, a, ns, 2, 128, rfl, hS, by omega, by omega, by omega, fun H1 d ds s1 nd hd => ?_⟩
    refine ⟨_, rfl, by decide, by decide, for_range (n := 8) (fun i σ H' => ∃ y2 y3 y4 y5 y6 y7 y8 y9 y10 y11, σ = [some (.ref a), some (.ref d), y2, y3, y4, y5, y6, y7, y8, y9, y10, y11, none, none] ∧ (∃ ds, H' d = some (LI ds)) ∧ GxR.TabG H' T) ⟨none, none, none, none, none, none, none, none, none, none, rfl, ⟨ds, hd⟩, tabG_same s1 hT⟩ (fun i σ H2 hi hp => ?_) (fun σ H2 _ => q H2)⟩
    obtain ⟨y2, y3, y4, y5, y6, y7, y8, y9, y10, y11, rfl, ⟨ds2, hd2⟩, hT2⟩ := hp
    -- many
    refine ⟨_, rfl, d, ds2, rfl, hd2, fun H3 s3 hd3 => ?_⟩
    have hT3 := tabG_but s3 hd2 hT2
    generalize ds2.headD 0 = x0
    obtain ⟨m, hm1, hm4, em⟩ := draw4 x0
    refine ⟨_, _, rfl, rfl, (by show (0 : Int) < _; decide), _, _, rfl, rfl, ?_⟩
    -- want
    refine ⟨_, rfl, _, rfl, d, _, m, by show [V.ref d, V.int (1 + x0 % 4)] = _; rw [em], hd3, hm1, hm4, fun H4 p ws ns4 s4 np npd hp hd4 hl sm _ => ?_⟩
    have hT4 := tabG_but s4 hd3 hT3
    -- content
    refine ⟨_, rfl, _, rfl, d, _, m, by show [V.ref d, V.int (1 + x0 % 4)] = _; rw [em], hd4, hm1, hm4, fun H5 q0 cs0 ns5 s5 nq0 nqd hq0 hd5 hlc0 _ _ => ?_⟩
    have hT5 := tabG_but s5 hd4 hT4
    have hp5 := s5 _ _ npd hp
    -- the draw that makes it greater
    refine ⟨fun σ' H' => ∃ (qa : Addr) (cs : List Int), σ' = [some (.ref a), some (.ref d), some (.int (0 + (i : Nat))), some (.int (1 + x0 % 4)), some (.ref p), some (.ref qa), y6, y7, y8, y9, y10, y11, none, none] ∧ (∃ ds, H' d = some (LI ds)) ∧ GxR.TabG H' T ∧ H' p = some (LI ws) ∧ H' qa = some (LI cs) ∧ cs.length = m, ?_, fun σ6 H6 hI => ?_⟩
    · refine ⟨_, rfl, d, ns5, rfl, hd5, fun H6 s6 hd6 => ⟨_, _, rfl, rfl, (by show (0 : Int) < _; decide), rfl, _, rfl, ite2 (fun _ => ?_) (fun _ => ?_)⟩⟩
      · have hq6 := s6 _ _ nqd hq0
        have hp6 := s6 _ _ npd hp5
        have hT6 := tabG_but s6 hd5 hT5
        refine ⟨_, rfl, q0, rfl, ⟨_, SqL.of hq6⟩, fun B nB => lc_list (xs := cs0.map V.int) (fun j H' => SameBut d H6 H' ∧ (∃ ds, H' d = some (LI ds)) ∧ ∃ ls : List Int, H' B = some (LI ls) ∧ ls.length = j) ?_ (fun j H' _ hp => SqL.of (hp.1 _ _ nqd hq6)) (fun j x H7 hx hp => ?_) (fun H7 hp => ?_)⟩
        · exact ⟨.of (same_upd nB), ⟨ns5.tail, by rw [upd_ne (ne_of_none hd6 nB)]; exact hd6⟩, [], upd_same, rfl⟩
        · obtain ⟨s7, ⟨ds7, hd7⟩, ls, hB, hls⟩ := hp
          obtain ⟨n, hn, rfl⟩ := of_get_ints hx
          have hj : j < cs0.length := (List.getElem?_eq_some_iff.mp hn).1
          have ndB : d ≠ B := ne_of_none hd6 nB
          refine ⟨rfl, _, rfl, _, rfl, d, ds7, rfl, hd7, fun H8 s8 hd8 => ⟨by show 2 ≤ sizeLine; decide, fun e ne => ?_⟩⟩
          obtain ⟨z, hz, ez⟩ := mod_at (i := (0 : Int) + (i : Nat)) (n := 2) (by decide)
          obtain ⟨v, hv, hv0⟩ := menu2 hz
          have hB8 := s8 _ _ ndB.symm hB
          refine ⟨_, rfl, _, _, rfl, rfl, (by show (0 : Int) < _; decide), e, _, _, _, rfl, rfl, SqL.of upd_same, at_of ez hv, _, _, rfl, rfl, hv0, _, _, rfl, rfl, _, (by rw [upd_ne (ne_of_none hB8 ne)]; exact hB8), szL' (by rw [List.length_map]; omega), ?_, ⟨ds7.tail, ?_⟩, _, at_app, by rw [List.length_append, hls]; rfl⟩
          · exact ((s7.trans s8).trans (.of (same_upd ne))).new nB
          · rw [upd_ne ndB, upd_ne (ne_of_none hd8 ne)]
            exact hd8
        · obtain ⟨s7, hd7, ls, hB, hls⟩ := hp
          rw [List.length_map] at hls
          exact ⟨B, ls, rfl, hd7, tabG_but s7 hd6 hT6, s7 _ _ npd hp6, hB, by omega⟩
      · exact ⟨q0, cs0, rfl, ⟨_, hd6⟩, tabG_but s6 hd5 hT5, s6 _ _ npd hp5, s6 _ _ nqd hq0, hlc0⟩
    · obtain ⟨qa, cs, rfl, ⟨ds6, hd6⟩, hT6, hp6, hq6, hlc⟩ := hI
      -- handed
      refine ⟨_, rfl, p, _, rfl, .inl (SqL.of hp6), fun h1 nh1 => ⟨_, rfl, qa, _, rfl, .inl (SqL.of ((same_upd nh1) _ _ hq6)), fun h2 nh2 => ⟨by show 2 ≤ sizeLine; decide, fun hh nhh => ?_⟩⟩⟩
      have s7 := ((same_upd (o := .lst (ws.map V.int)) nh1).trans (same_upd (o := .lst (cs.map V.int)) nh2)).trans (same_upd (o := .lst [.ref h1, .ref h2]) nhh)
      have e1 : upd (upd (upd H6 h1 (.lst (ws.map V.int))) h2 (.lst (cs.map V.int))) hh (.lst [.ref h1, .ref h2]) h1 = some (LI ws) := (same_upd nhh) _ _ ((same_upd nh2) _ _ upd_same)
      have e2 : upd (upd (upd H6 h1 (.lst (ws.map V.int))) h2 (.lst (cs.map V.int))) hh (.lst [.ref h1, .ref h2]) h2 = some (LI cs) := (same_upd nhh) _ _ upd_same
      have e3 : upd (upd (upd H6 h1 (.lst (ws.map V.int))) h2 (.lst (cs.map V.int))) hh (.lst [.ref h1, .ref h2]) hh = some (.lst [.ref h1, .ref h2]) := upd_same
      generalize upd (upd (upd H6 h1 (.lst (ws.map V.int))) h2 (.lst (cs.map V.int))) hh (.lst [.ref h1, .ref h2]) = H7 at s7 e1 e2 e3 ⊢
      have hd7 := s7 _ _ hd6
      have hp7 := s7 _ _ hp6
      have hq7 := s7 _ _ hq6
      have hT7 := tabG_same s7 hT6
      -- over
      refine ⟨_, rfl, _, rfl, by omega, by omega, fun O nO => lc_range (lo := 0) (n := (1 + x0 % 4).toNat) (fun j H' => Same H7 H' ∧ H' O = some (LI ((overM ws cs).take j))) ⟨same_upd nO, upd_same⟩ (fun j H8 hj hp => ?_) (fun H8 hp => ?_)⟩
      · obtain ⟨s8, hO⟩ := hp
        have hj1 : j < ws.length := by omega
        have hj2 : j < cs.length := by omega
        have g1 := List.getElem?_eq_getElem hj1
        have g2 := List.getElem?_eq_getElem hj2
        refine ⟨rfl, _, rfl, _, rfl, p, _, _, _, rfl, rfl, SqL.of (s8 _ _ hp7), at_of (Int.zero_add _) (get_ints g1), _, rfl, _, rfl, qa, _, _, _, rfl, rfl, SqL.of (s8 _ _ hq7), at_of (Int.zero_add _) (get_ints g2), _, _, rfl, rfl, _, hO, szL' (by rw [List.length_map, List.length_take]; omega), sm_new s8 nO, ?_⟩
        rw [take_succ_at (overM_get g1 g2)]
        exact at_app
      · obtain ⟨s8, hO⟩ := hp
        rw [List.take_of_length_le (by rw [overM_len]; omega)] at hO
        have hT8 := tabG_same s8 hT7
        -- covers
        refine ⟨_, rfl, hh, _, _, _, rfl, rfl, SqL.of (s8 _ _ e3), atI_nat (j := 1) rfl, _, rfl, hh, _, _, _, rfl, rfl, SqL.of (s8 _ _ e3), atI_nat (j := 0) rfl, h2, h1, cs, ws, rfl, SqL.of (s8 _ _ e2), SqL.of (s8 _ _ e1), hT8, fun H9 t9 => ?_⟩
        have k9 : ∀ {b : Addr} {xs : List V}, H7 b = some (.lst xs) → H9 b = some (.lst xs) := fun h => tabbed_lst t9 hT8 (s8 _ _ h)
        have hO9 : H9 O = some (LI (overM ws cs)) := tabbed_lst t9 hT8 hO
        have f1 := k9 e1
        have f2 := k9 e2
        have f3 := k9 e3
        have hd9 := k9 hd7
        have hp9 := k9 hp7
        have hq9 := k9 hq7
        refine ⟨_, rfl, _, _, _, _, true, rfl, .ty "bool", .base (.bl _), kit_ty (by decide +kernel), true, rfl, ?_⟩
        refine ⟨_, rfl, _, rfl, O, overM ws cs, rfl, SqL.of hO9, by rw [overM_len]; omega, fun mx hmx hle => ⟨_, _, rfl, rfl, rfl, _, rfl, iteNS (by show V.bl _ = V.bl _; rw [covers_over hmx hle]) ?_⟩⟩
        -- due
        refine ⟨_, rfl, O, rfl, ⟨_, SqL.of hO9⟩, fun U nU => lc_list (xs := (overM ws cs).map V.int) (fun j H' => Same H9 H' ∧ H' U = some (LI ((dueM (overM ws cs)).take j))) ⟨same_upd nU, upd_same⟩ (fun j H' _ hp => SqL.of (hp.1 _ _ hO9)) (fun j x H10 hx hp => ?_) (fun H10 hp => ?_)⟩
        · obtain ⟨s10, hU⟩ := hp
          obtain ⟨n, hn, rfl⟩ := of_get_ints hx
          have hj := (List.getElem?_eq_some_iff.mp hn).1
          rw [overM_len] at hj
          refine ⟨rfl, _, rfl, _, _, rfl, _, hU, szL' (by rw [List.length_map, List.length_take]; omega), sm_new s10 nU, ?_⟩
          have g : (dueM (overM ws cs))[j]? = some (if n > 0 then n else 0) := by
            unfold dueM
            rw [List.getElem?_map, hn]
            rfl
          rw [take_succ_at g]
          exact at_app
        · obtain ⟨s10, hU⟩ := hp
          rw [List.length_map, List.take_of_length_le (by unfold dueM; rw [List.length_map]; omega), due_rest] at hU
          refine ⟨_, rfl, by decide, by decide, for_range (n := 2) (fun _ σ H' => ∃ y10 y11, σ = [some (.ref a), some (.ref d), some (.int (0 + (i : Nat))), some (.int (1 + x0 % 4)), some (.ref p), some (.ref qa), some (.ref hh), some (.ref O), some (.bl (coversM cs ws)), some (.ref U), y10, y11, none, none] ∧ Same H10 H') ⟨_, _, rfl, .refl _⟩ (fun i2 σ H11 _ hp => ?_) (fun σ H11 hp => ?_)⟩
          · obtain ⟨y10, y11, rfl, s11⟩ := hp
            have k11 : ∀ {b : Addr} {o : HO}, H9 b = some o → H11 b = some o := fun h => s11 _ _ (s10 _ _ h)
            refine ⟨_, rfl, hh, _, _, _, rfl, rfl, SqL.of (k11 f3), atI_nat (j := 0) rfl, _, rfl, hh, _, _, _, rfl, rfl, SqL.of (k11 f3), atI_nat (j := 1) rfl, h1, h2, ws, cs, rfl, SqL.of (k11 f1), SqL.of (k11 f2), by omega, fun H12 t s12 nt ht => ?_⟩
            refine ⟨_, rfl, _, rfl, t, U, restM ws cs, rfl, ht, SqL.of (s12 _ _ (s11 _ _ hU)), fun H13 s13 => ⟨true, rfl, ?_⟩⟩
            have s113 := s12.trans s13
            refine ⟨_, rfl, _, rfl, _, rfl, by show 2 ≤ sizeLine; decide, fun e ne => ?_⟩
            have k14 : ∀ {b : Addr} {o : HO}, H9 b = some o → upd H13 e (.lst [.ref p, .ref qa]) b = some o := fun h => (same_upd ne) _ _ (s113 _ _ (k11 h))
            refine ⟨dRows [ws, cs], dRows [ws, cs], .lst (SqL.of (k14 f3)) (.cons (dp_ints (SqL.of (k14 f1))) (.cons (dp_ints (SqL.of (k14 f2))) .nil)), .lst (SqL.of upd_same) (.cons (dp_ints (SqL.of (k14 hp9))) (.cons (dp_ints (SqL.of (k14 hq9))) .nil)), shaped_rows _, shaped_rows _, _, rfl, ?_⟩
            rw [eqv_self (shaped_rows _)]
            have ht13 := (same_upd (o := .lst [.ref p, .ref qa]) ne) _ _ (s13 _ _ ht)
            refine ⟨_, rfl, .inl ⟨rfl, _, SqL.of ht13⟩, t, _, _, rfl, rfl, ht13, szL' (by rw [List.length_map, restM_len]; omega), _, _, rfl, ?_⟩
            exact sm_new ((s11.trans s113).trans (same_upd ne)) (s11.free nt)
          · obtain ⟨y10, y11, rfl, s11⟩ := hp
            exact ⟨_, _, _, _, _, _, _, _, _, _, rfl, ⟨_, s11 _ _ (s10 _ _ hd9)⟩, tabG_same s11 (tabG_same s10 t9.1)⟩
end
/-! ### the end, with tables of code objects -/
theorem tabIn_of {K : PySem.W.Frag} {x : Str} {f c P : Addr} {oc e : Value} {od dd : Option Addr} {fd : FuncData} {sl sl' : Array (Option Value)} {vs : Array Value} (a : PySem.W.nsIn K mainGlobals x = some (some (.ref f))) (l : K.lookup f = some ⟨oc, od, .func fd, sl⟩) (hc : fd.code = .ref c)
    (lc : K.lookup c = some ⟨e, dd, .fields vs, sl'⟩) (hv : vs[11]? = some (.ref P)) : PySem.W.tabIn K x = some (c, P) := by
  unfold PySem.W.tabIn
  rw [a]
  simp only [l, hc, lc, hv]
theorem walk_ofG {l : PySem.W.OpenLaw} {n k : Nat} {q : Program} {loose : List Str} {XP : (Str → Option Value) → Heap → Prop} {YP : World → Heap → Prop} {d : DefRec} {K : Params → PySem.W.Frag} {CX : World → CXT} {x : Str}
    (hn : l.most = some n) (hn2 : n ≤ sizeLine) (hdf : d.params.defaults = []) (hr : Room k callerA) (hY : ∀ (w : World) (h : Heap), YP w h → (K w.params).In h)
    (F : ∀ (w : World) (mg : Str → Option Value) (fa : Addr) (h : Heap), (K w.params).In h → h.Ns mainGlobals mg → mg d.name = some (.ref fa) →
      (∀ (y : Str) (c P : Addr), ((recsOf q).find? fun e => e.name == y).isSome = true → PySem.W.tabIn (K w.params) y = some (c, P) → PySem.W.CodeHd h c P ∧ h.get? P = some { cls := .none, data := .fields #[] }) → LamX.LawAtS l w (K w.params) (CX w) k n x mg fa h)
    (hCX : ∀ (w : World) (H : Hp) (s : Shared) (e : Value) (s' : Shared), CX w [] H s (fun _ _ _ => False) e s' → False) :
    PySem.W.WalkO q loose XP YP l.row.toRowW d [] (fun f vs => PySem.call f vs) := by
  refine Att.attach_callB hn hdf fun w s₀ s₁ mg mb fa o pm cd doc a vs ns G Y ho hd hcd hmg hobj hints hlen hbits hg => ?_
  have KX := hY w _ Y
  obtain ⟨fd, cs, sp, hT, nT, C, hb, hsp, hF⟩ := F w mg fa _ KX G.T.g hmg fun y c P hy ht => by
    obtain ⟨dd, hdd⟩ := Option.isSome_iff_exists.mp hy
    exact PySem.W.tab_of G.T KX hdd ht
  exact LamX.law_callTs KX G.T.g G.T.b G.T.builtins G.T.nolimit hg hT nT C G.T.bmain hobj hints (Nat.le_trans hlen hn2) hr hF hb (fun H hH hS => hsp H a ns hlen hbits hH hS) fun H e s' => hCX w H s₁ e s'
/-! ### what the top has written -/
theorem all_mk {l : PySem.W.OpenLaw} {w : World} {q : Program} {K : PySem.W.Frag} {h : Heap} {mg : Str → Option Value} {fa f1 f2 f3 f4 f5 f6 f7 f8 f9 f10 : Addr} (X : K.In h) (G : h.Ns mainGlobals mg) (hfa : mg "law" = some (.ref fa))
    (tabs : ∀ (y : Str) (c P : Addr), ((recsOf q).find? fun e => e.name == y).isSome = true → PySem.W.tabIn K y = some (c, P) → PySem.W.CodeHd h c P ∧ h.get? P = some { cls := .none, data := .fields #[] })
    {od1 an1 od2 an2 od3 an3 od4 an4 od5 an5 od6 an6 od7 an7 od8 an8 od9 an9 od10 an10 : Option Addr} {sl1 sl2 sl3 sl4 sl5 sl6 sl7 sl8 sl9 sl10 : Array (Option Value)} {oc1 kV1 dc1 pm1 ct1 cd1 oc2 kV2 dc2 pm2 ct2 cd2 oc3 kV3 dc3 pm3 ct3 oc4 kV4 dc4 pm4 ct4 cd4 oc5 kV5 dc5 pm5 ct5 cd5 oc6 kV6 dc6 pm6 ct6 cd6 oc7 kV7 dc7 pm7 ct7 cd7 oc8 kV8 dc8 pm8 ct8 cd8 oc9 kV9 dc9 pm9 ct9 cd9 oc10 kV10 dc10 pm10 ct10 cd10 : Value}
    {cT3 PT3 : Addr} {eT3 : Value} {dT3 : Option Addr} {vT3 : Array Value} {sT3 : Array (Option Value)}
    (a1 : PySem.W.nsIn K mainGlobals "law" = some (some (.ref f1))) (l1 : K.lookup f1 = some ⟨oc1, od1, .func (PySem.W.fnOf "law" "law" (defArgs s_law) (defBody s_law) (defScope s_law) .none kV1 dc1 pm1 an1 cd1 ct1), sl1⟩) (c1 : PySem.W.codeIn K cd1 "law" = true) (k1 : PySem.W.keepIn K (.ref f1) = true)
    (a2 : PySem.W.nsIn K mainGlobals "had" = some (some (.ref f2))) (l2 : K.lookup f2 = some ⟨oc2, od2, .func (PySem.W.fnOf "had" "had" (defArgs s_had) (defBody s_had) (defScope s_had) .none kV2 dc2 pm2 an2 cd2 ct2), sl2⟩) (c2 : PySem.W.codeIn K cd2 "had" = true) (k2 : PySem.W.keepIn K (.ref f2) = true)
    (a3 : PySem.W.nsIn K mainGlobals "covers" = some (some (.ref f3))) (l3 : K.lookup f3 = some ⟨oc3, od3, .func (PySem.W.fnOf "covers" "covers" (defArgs s_covers) (defBody s_covers) (defScope s_covers) .none kV3 dc3 pm3 an3 (.ref cT3) ct3), sl3⟩) (c3 : PySem.W.codeIn K (.ref cT3) "covers" = true) (k3 : PySem.W.keepIn K (.ref f3) = true)
    (a4 : PySem.W.nsIn K mainGlobals "rest" = some (some (.ref f4))) (l4 : K.lookup f4 = some ⟨oc4, od4, .func (PySem.W.fnOf "rest" "rest" (defArgs s_rest) (defBody s_rest) (defScope s_rest) .none kV4 dc4 pm4 an4 cd4 ct4), sl4⟩) (c4 : PySem.W.codeIn K cd4 "rest" = true) (k4 : PySem.W.keepIn K (.ref f4) = true)
    (a5 : PySem.W.nsIn K mainGlobals "_law_draws" = some (some (.ref f5))) (l5 : K.lookup f5 = some ⟨oc5, od5, .func (PySem.W.fnOf "_law_draws" "_law_draws" (defArgs s_law_draws) (defBody s_law_draws) (defScope s_law_draws) .none kV5 dc5 pm5 an5 cd5 ct5), sl5⟩) (c5 : PySem.W.codeIn K cd5 "_law_draws" = true) (k5 : PySem.W.keepIn K (.ref f5) = true)
    (a6 : PySem.W.nsIn K mainGlobals "_law_pop" = some (some (.ref f6))) (l6 : K.lookup f6 = some ⟨oc6, od6, .func (PySem.W.fnOf "_law_pop" "_law_pop" (defArgs s_law_pop) (defBody s_law_pop) (defScope s_law_pop) .none kV6 dc6 pm6 an6 cd6 ct6), sl6⟩) (c6 : PySem.W.codeIn K cd6 "_law_pop" = true) (k6 : PySem.W.keepIn K (.ref f6) = true)
    (a7 : PySem.W.nsIn K mainGlobals "_law_whole" = some (some (.ref f7))) (l7 : K.lookup f7 = some ⟨oc7, od7, .func (PySem.W.fnOf "_law_whole" "_law_whole" (defArgs s_law_whole) (defBody s_law_whole) (defScope s_law_whole) .none kV7 dc7 pm7 an7 cd7 ct7), sl7⟩) (c7 : PySem.W.codeIn K cd7 "_law_whole" = true) (k7 : PySem.W.keepIn K (.ref f7) = true)
    (a8 : PySem.W.nsIn K mainGlobals "_law_numbers" = some (some (.ref f8))) (l8 : K.lookup f8 = some ⟨oc8, od8, .func (PySem.W.fnOf "_law_numbers" "_law_numbers" (defArgs s_law_numbers) (defBody s_law_numbers) (defScope s_law_numbers) .none kV8 dc8 pm8 an8 cd8 ct8), sl8⟩) (c8 : PySem.W.codeIn K cd8 "_law_numbers" = true) (k8 : PySem.W.keepIn K (.ref f8) = true)
    (a9 : PySem.W.nsIn K mainGlobals "_law_want" = some (some (.ref f9))) (l9 : K.lookup f9 = some ⟨oc9, od9, .func (PySem.W.fnOf "_law_want" "_law_want" (defArgs s_law_want) (defBody s_law_want) (defScope s_law_want) .none kV9 dc9 pm9 an9 cd9 ct9), sl9⟩) (c9 : PySem.W.codeIn K cd9 "_law_want" = true) (k9 : PySem.W.keepIn K (.ref f9) = true)
    (a10 : PySem.W.nsIn K mainGlobals "_law_cases" = some (some (.ref f10))) (l10 : K.lookup f10 = some ⟨oc10, od10, .func (PySem.W.fnOf "_law_cases" "_law_cases" (defArgs s_law_cases) (defBody s_law_cases) (defScope s_law_cases) .none kV10 dc10 pm10 an10 cd10 ct10), sl10⟩) (c10 : PySem.W.codeIn K cd10 "_law_cases" = true) (k10 : PySem.W.keepIn K (.ref f10) = true)
    (lc3 : K.lookup cT3 = some ⟨eT3, dT3, .fields vT3, sT3⟩) (hv3 : vT3[11]? = some (.ref PT3)) (nt3 : (K.lookup PT3).isNone = true) (rc3 : ((recsOf q).find? fun e => e.name == ("covers" : Str)).isSome = true)
    (z1 : PySem.W.nsIn K mainGlobals "len" = some none)
    (z2 : PySem.W.nsIn K mainGlobals "range" = some none)
    (z3 : PySem.W.nsIn K mainGlobals "max" = some none)
    (z4 : PySem.W.nsIn K mainGlobals "list" = some none)
    (z5 : PySem.W.nsIn K mainGlobals "isinstance" = some none)
    (z6 : PySem.W.nsIn K mainGlobals "int" = some none)
    (z7 : PySem.W.nsIn K mainGlobals "bool" = some none)
    (z8 : PySem.W.nsIn K mainGlobals "enumerate" = some none)
    (z9 : PySem.W.nsIn K mainGlobals "all" = some none)
    : LamX.LawAtS l w K CX0 3 63 "_law_script" mg fa h := by
  have e := hfa.symm.trans (PySem.W.mg_of X G a1)
  cases e
  have F1 := fun_mk (st := s_law) l1 c1 k1
  have b1 := F1.binds (ps := ["_law_script"]) fun _ _ _ _ _ _ us hl => match us, hl with | [_], _ => rfl
  have F2 := fun_mk (st := s_had) l2 c2 k2
  have b2 := F2.binds (ps := ["content", "thing"]) fun _ _ _ _ _ _ us hl => match us, hl with | [_, _], _ => rfl
  have F3 := fun_mk (st := s_covers) l3 c3 k3
  have b3 := F3.binds (ps := ["content", "want"]) fun _ _ _ _ _ _ us hl => match us, hl with | [_, _], _ => rfl
  have F4 := fun_mk (st := s_rest) l4 c4 k4
  have b4 := F4.binds (ps := ["want", "content"]) fun _ _ _ _ _ _ us hl => match us, hl with | [_, _], _ => rfl
  have F5 := fun_mk (st := s_law_draws) l5 c5 k5
  have b5 := F5.binds (ps := ["_law_script", "_law_turn", "_law_many"]) fun _ _ _ _ _ _ us hl => match us, hl with | [_, _, _], _ => rfl
  have F6 := fun_mk (st := s_law_pop) l6 c6 k6
  have b6 := F6.binds (ps := ["_law_draws_here"]) fun _ _ _ _ _ _ us hl => match us, hl with | [_], _ => rfl
  have F7 := fun_mk (st := s_law_whole) l7 c7 k7
  have b7 := F7.binds (ps := ["_law_found"]) fun _ _ _ _ _ _ us hl => match us, hl with | [_], _ => rfl
  have F8 := fun_mk (st := s_law_numbers) l8 c8 k8
  have b8 := F8.binds (ps := ["_law_found", "_law_due"]) fun _ _ _ _ _ _ us hl => match us, hl with | [_, _], _ => rfl
  have F9 := fun_mk (st := s_law_want) l9 c9 k9
  have b9 := F9.binds (ps := ["_law_draws_here", "_law_many"]) fun _ _ _ _ _ _ us hl => match us, hl with | [_, _], _ => rfl
  have F10 := fun_mk (st := s_law_cases) l10 c10 k10
  have b10 := F10.binds (ps := ["_law_want_here"]) fun _ _ _ _ _ _ us hl => match us, hl with | [_], _ => rfl
  have M : Names mg := ⟨PySem.W.mg_none_of X G z1, PySem.W.mg_none_of X G z2, PySem.W.mg_none_of X G z3, PySem.W.mg_none_of X G z4, PySem.W.mg_none_of X G z5, PySem.W.mg_none_of X G z6, PySem.W.mg_none_of X G z7, PySem.W.mg_none_of X G z8, PySem.W.mg_none_of X G z9⟩
  obtain ⟨hd3, ht3⟩ := tabs "covers" cT3 PT3 rc3 (tabIn_of a3 l3 rfl lc3 hv3)
  refine ⟨PySem.W.fnOf "law" "law" (defArgs s_law) (defBody s_law) (defScope s_law) .none kV1 dc1 pm1 an1 cd1 ct1, [(cT3, PT3)], sp_law K PT3, ?hT, ?nT, ?hC, fun s v => .of_eq rfl, fun H a ns hl _ hT hS => ⟨a, ns, rfl, hS, hl, ⟨#[], hT (cT3, PT3) List.mem_cons_self, True.intro⟩, fun _ => rfl⟩, fun base _ _ hB => ?_⟩
  case hT =>
    exact fun p hp => by
      rcases List.mem_cons.mp hp with rfl | hp
      · exact ht3
      cases hp
  case nT =>
    exact fun p hp => by
      rcases List.mem_cons.mp hp with rfl | hp
      · exact Option.isNone_iff_eq_none.mp nt3
      cases hp
  case hC =>
    exact fun p hp => by
      rcases List.mem_cons.mp hp with rfl | hp
      · exact hd3
      cases hp
  have T3 := hB (cT3, PT3) List.mem_cons_self
  exact ok_law M ⟨F1, PySem.W.mg_of X G a1, b1⟩ ⟨F2, PySem.W.mg_of X G a2, b2⟩ ⟨F3, PySem.W.mg_of X G a3, b3⟩ ⟨F4, PySem.W.mg_of X G a4, b4⟩ ⟨F5, PySem.W.mg_of X G a5, b5⟩ ⟨F6, PySem.W.mg_of X G a6, b6⟩ ⟨F7, PySem.W.mg_of X G a7, b7⟩ ⟨F8, PySem.W.mg_of X G a8, b8⟩ ⟨F9, PySem.W.mg_of X G a9, b9⟩ ⟨F10, PySem.W.mg_of X G a10, b10⟩ rfl ⟨T3.code, T3.bm, T3.gP⟩
end Pk
open PySem PySem.W PyProof.Rows
set_option maxHeartbeats 0 in
theorem PySem.Challenge.cw_packwants_k01_covers_and_rests_holds : PySem.Challenge.rw_packwants_k01_covers_and_rests.Holds := by
  w_on; o_law; k_head; (case hw => w_witness2)
  k_fill
  refine Pk.walk_ofG (l := PySem.Challenge.rw_packwants_k01_covers_and_rests) (n := 63) (k := 3) (x := "_law_script") (CX := fun _ => L2.CX0) rfl (by decide) rfl ⟨rfl, by decide, by decide⟩ (fun w h Y => PySem.W.kIn_of Y) ?F (fun _ _ _ _ _ h => h)
  case F =>
    intro w mg fa h KX G hmg tabs
    refine' Pk.all_mk KX G hmg tabs ?a1 ?l1 ?c1 ?k1 ?a2 ?l2 ?c2 ?k2 ?a3 ?l3 ?c3 ?k3 ?a4 ?l4 ?c4 ?k4 ?a5 ?l5 ?c5 ?k5 ?a6 ?l6 ?c6 ?k6 ?a7 ?l7 ?c7 ?k7 ?a8 ?l8 ?c8 ?k8 ?a9 ?l9 ?c9 ?k9 ?a10 ?l10 ?c10 ?k10 ?lc3 ?hv3 ?nt3 ?rc3 ?z1 ?z2 ?z3 ?z4 ?z5 ?z6 ?z7 ?z8 ?z9
    (case a1 => k_is); (case l1 => k_is); (case c1 => k_is); (case k1 => k_is); (case a2 => k_is); (case l2 => k_is); (case c2 => k_is); (case k2 => k_is); (case a3 => k_is); (case l3 => k_is); (case c3 => k_is); (case k3 => k_is); (case a4 => k_is); (case l4 => k_is); (case c4 => k_is); (case k4 => k_is); (case a5 => k_is); (case l5 => k_is); (case c5 => k_is); (case k5 => k_is); (case a6 => k_is); (case l6 => k_is); (case c6 => k_is); (case k6 => k_is); (case a7 => k_is); (case l7 => k_is); (case c7 => k_is); (case k7 => k_is); (case a8 => k_is); (case l8 => k_is); (case c8 => k_is); (case k8 => k_is); (case a9 => k_is); (case l9 => k_is); (case c9 => k_is); (case k9 => k_is); (case a10 => k_is); (case l10 => k_is); (case c10 => k_is); (case k10 => k_is); (case lc3 => k_is); (case hv3 => rfl); (case nt3 => rfl); (case rc3 => rfl); (case z1 => k_is); (case z2 => k_is); (case z3 => k_is); (case z4 => k_is); (case z5 => k_is); (case z6 => k_is); (case z7 => k_is); (case z8 => k_is); (case z9 => k_is)
